"""[47], and what stands before [44]: turns."""

import random
import unittest

from asmany.errors import InvalidNumber, InvalidPool
from asmany.pieces import pieces
from asmany.shows import read_formula
from asmany.turns import good_turn, last_hand, turn_value
from plain import Case, formula_ways, minus, named, some_formulas, strange_but, strange_numbers, within

FORMULA = read_formula("a and 2 of (b or c)")
SIXTY = ("many", 60, ("or", tuple(("kind", name) for name in "abcdefgh")))
GREAT = 10 ** 18


def last_hands(ways, pool, hands, turn, last):
    """All hands that may make the last piece, by a walk through all full runs."""
    found = set()
    for way in ways:
        if within(way, pool):
            found |= last_hands(ways, minus(pool, way), hands, (turn + 1) % hands, turn)
    return found or {last}


def after(ways, pool, most):
    """All pools that 1 to `most` pieces leave, with the number of pieces."""
    found, now = set(), {pool}
    for number in range(1, most + 1):
        now = {minus(one, way) for one in now for way in ways if within(way, one)}
        found |= {(one, number) for one in now}
    return found


def wins(rows, pools, most, known):
    """Whether whoever is to move can win, by the rules of the game alone."""
    if pools not in known:
        known[pools] = any(
            not wins(rows, pools[:at] + (pool,) + pools[at + 1:], most, known)
            for at, ways in enumerate(rows) for pool, _ in after(ways, pools[at], most))
    return known[pools]


def small_formulas(seed, many, kinds):
    found = some_formulas(seed, many, kinds=kinds, top=3)
    return [formula for formula in found if len(formula_ways(formula, named(formula))) <= 12]


class LastHand(Case):

    def test_examples(self):
        self.assertEqual(last_hand(FORMULA, (3, 3, 3), 2), 0)
        self.assertEqual(last_hand(formula=FORMULA, pool=(3, 3, 3), hands=2, first=1), 1)
        self.assertIsNone(last_hand(FORMULA, (3, 1, 0), 2))
        self.assertEqual(last_hand(FORMULA, (1, 2, 0), 5, first=4), 4)
        self.assertEqual(last_hand(FORMULA, (1, 2, 0), 1), 0)

    def test_small(self):
        """The same hand, whatever ways are taken."""
        chance = random.Random(47)
        for formula in small_formulas(470, 120, 4):
            ways = formula_ways(formula, named(formula))
            for _ in range(3):
                pool = tuple(chance.randint(0, 3) for _ in named(formula))
                hands = chance.randint(1, 4)
                first = chance.randrange(hands)
                found = last_hands(ways, pool, hands, first, None)
                self.assertEqual({last_hand(formula, pool, hands, first=first)}, found)

    def test_great(self):
        pool = (GREAT,) * 8
        number = 8 * GREAT // 60
        self.assertEqual(last_hand(SIXTY, pool, GREAT), (number - 1) % GREAT)
        self.assertEqual(last_hand(SIXTY, pool, GREAT, first=GREAT - 1), (number + GREAT - 2) % GREAT)
        self.assertEqual(last_hand(SIXTY, pool, 7, first=6), (number + 5) % 7)

    def test_errors(self):
        for pool in strange_but(3):
            self.fault(InvalidPool, -1, last_hand, FORMULA, pool, None, first=None)
        for item in strange_numbers() + [GREAT + 1]:
            self.fault(InvalidPool, 1, last_hand, FORMULA, (1, item, item), None, first=None)
        for hands in strange_numbers() + [0, GREAT + 1]:
            self.fault(InvalidNumber, "hands", last_hand, FORMULA, (3, 3, 3), hands, first=None)
        for first in strange_numbers() + [2, 3, GREAT]:
            self.fault(InvalidNumber, "first", last_hand, FORMULA, (3, 3, 3), 2, first=first)
            self.fault(InvalidNumber, "first", last_hand, FORMULA, (0, 0, 0), 2, first=first)
        with self.assertRaises(TypeError):
            last_hand(FORMULA, (3, 3, 3), 2, 1)


class GoodTurns(Case):

    def test_examples(self):
        shops = ((FORMULA, (3, 3, 3)), (FORMULA, (1, 9, 9)))
        self.assertEqual(good_turn(shops=shops, most=2), (0, 2))
        self.assertEqual(turn_value(shops=shops, most=2), 0 ^ 1)
        self.assertEqual((turn_value((), 3), good_turn((), 3)), (0, None))
        self.assertEqual((turn_value(((FORMULA, (0, 0, 0)),), 3), good_turn(((FORMULA, (0, 0, 0)),), 3)), (0, None))
        self.assertEqual(good_turn(((("kind", "a"), (7,)),), 3), (0, 3))
        self.assertIsNone(good_turn(((("kind", "a"), (8,)),), 3))
        # A turn that raises the remainder may come first.
        self.assertEqual(good_turn(((("kind", "a"), (4,)), (("kind", "a"), (3,))), 3), (0, 1))

    def test_small(self):
        """Whoever is to move can win exactly if the value is not 0."""
        chance = random.Random(48)
        formulas = small_formulas(480, 60, 3)
        told = [0, 0]
        for _ in range(150):
            shops = []
            for _ in range(chance.randint(1, 3)):
                formula = chance.choice(formulas)
                shops.append((formula, tuple(chance.randint(0, 3) for _ in named(formula))))
            most = chance.randint(1, 3)
            rows = [sorted(formula_ways(formula, named(formula))) for formula, _ in shops]
            pools = tuple(pool for _, pool in shops)
            known = {}
            right = wins(rows, pools, most, known)
            told[right] += 1
            self.assertIs(turn_value(tuple(shops), most) != 0, right)
            turns = sorted({(at, number) for at, ways in enumerate(rows) for pool, number in after(ways, pools[at], most)
                            if not wins(rows, pools[:at] + (pool,) + pools[at + 1:], most, known)})
            self.assertEqual(good_turn(tuple(shops), most), turns[0] if right else None)
        self.assertGreater(min(told), 30)

    def test_numbers(self):
        chance = random.Random(49)
        for _ in range(300):
            most = chance.choice((1, 2, 3, 5, 6, 12))
            counts = [chance.randint(0, 30) for _ in range(chance.randint(0, 5))]
            shops = tuple((("kind", "a"), (count,)) for count in counts)
            value = 0
            for count in counts:
                value ^= count % (most + 1)
            self.assertEqual(turn_value(shops, most), value)
            turns = []
            for at, count in enumerate(counts):
                for number in range(1, min(most, count) + 1):
                    if value ^ count % (most + 1) ^ (count - number) % (most + 1) == 0:
                        turns.append((at, number))
            self.assertEqual(good_turn(shops, most), min(turns) if value and turns else None)
            self.assertTrue(turns or not value)

    def test_great(self):
        shops = ((SIXTY, (GREAT,) * 8), (("kind", "a"), (GREAT,)), (FORMULA, (GREAT, GREAT, 7)))
        for most in (1, 2, 999, GREAT - 1, GREAT):
            value = 0
            for formula, pool in shops:
                value ^= pieces(formula, pool) % (most + 1)
            self.assertEqual(turn_value(shops, most), value)
            turn = good_turn(shops, most)
            self.assertIs(turn is None, value == 0)
            if turn:
                at, number = turn
                self.assertTrue(1 <= number <= min(most, pieces(*shops[at])))
                rest = pieces(*shops[at])
                self.assertEqual(value ^ rest % (most + 1) ^ (rest - number) % (most + 1), 0)

    def test_errors(self):
        for call in (turn_value, good_turn):
            for pool in strange_but(3):
                self.fault(InvalidPool, -1, call, ((FORMULA, (1, 1, 1)), (FORMULA, pool)), None)
            for item in strange_numbers() + [GREAT + 1]:
                self.fault(InvalidPool, 2, call, ((FORMULA, (1, 1, item)), (FORMULA, None)), None)
            for most in strange_numbers() + [0, GREAT + 1]:
                self.fault(InvalidNumber, "most", call, ((FORMULA, (1, 1, 1)),), most)
                self.fault(InvalidNumber, "most", call, (), most)


if __name__ == "__main__":
    unittest.main()
