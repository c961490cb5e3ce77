"""[48] Two hands, and what stands before [44]."""

import random
import unittest

from asmany.errors import InvalidNumber, InvalidPool, Refused
from asmany.hands import hand_limits, share_pool
from asmany.pieces import pieces
from plain import STRANGE, Case, formula_ways, minus, named, plus, some_formulas, strange_lots, strange_numbers
from plain import within

A, B, C, D, E = [("kind", name) for name in "abcde"]
FORMULA = ("and", (A, ("many", 2, ("or", (B, C)))))
GREAT = 10 ** 18


def numbers_of_two(rows, pool, known):
    """All pairs of numbers of pieces that two hands can make, by ways of their own, in any sequence."""
    if pool not in known:
        found = {(0, 0)}
        for hand, ways in enumerate(rows):
            for way in ways:
                if within(way, pool):
                    for one, other in numbers_of_two(rows, minus(pool, way), known):
                        found.add((one + 1, other) if hand == 0 else (one, other + 1))
        known[pool] = found
    return known[pool]


class Hands(Case):

    def test_examples(self):
        self.assertEqual(hand_limits(FORMULA, (3, 3, 1), ("a", "b"), ("a", "c")), (1, 0, 1))
        self.assertEqual(share_pool(FORMULA, (2, 2, 2), ("a", "b"), ("a", "c"), 1, 1), ((1, 2, 0), (1, 0, 2)))
        self.assertIsNone(share_pool(formula=FORMULA, pool=(2, 2, 2), lot=("a", "b"), other=("a", "c"), many=2, rest=0))
        self.assertEqual(hand_limits(formula=FORMULA, pool=(5, 5, 5), lot=(), other=()), (0, 0, 0))
        self.assertEqual(share_pool(FORMULA, (5, 5, 5), (), (), 0, 0), ((0, 0, 0), (0, 0, 0)))
        self.assertIsNone(share_pool(FORMULA, (5, 5, 5), (), (), 0, 1))
        self.assertEqual(hand_limits(("or", (A, B)), (GREAT, GREAT), ("a",), ("a", "b")), (GREAT, 2 * GREAT, 2 * GREAT))
        found = share_pool(("or", (A, B)), (GREAT, GREAT), ("a",), ("a", "b"), GREAT - 1, GREAT + 1)
        self.assertEqual(found, ((GREAT - 1, 0), (1, GREAT)))
        self.assertIsNone(share_pool(("or", (A, B)), (GREAT, GREAT), ("a",), ("a", "b"), 10 ** 40, 0))
        self.assertEqual(hand_limits(("many", 2, ("or", (A, B))), (3, 3), ("a",), ("b",)), (1, 1, 2))

    def test_three_hands(self):
        """For three hands it would not be enough: the example of the document."""
        formula = ("or", (("and", (("or", (A, B)), ("or", (C, D)))), E))
        lots = (("a", "d", "e"), ("b", "c", "e"), ("a", "c"))
        for one in range(3):
            for other in range(one):
                self.assertIsNotNone(share_pool(formula, (1,) * 5, lots[one], lots[other], 1, 1))
        self.assertEqual(pieces(formula, (1,) * 5), 3)

    def ways_of_lot(self, ways, kinds, lot):
        return [way for way in ways if all(kind in lot or not amount for kind, amount in zip(kinds, way))]

    def test_many(self):
        """They can exactly if no number is above its limit, and their sum not above the third one."""
        chance = random.Random(48)
        both = 0
        for formula in some_formulas(480, 250, kinds=4, top=4):
            kinds = named(formula)
            ways = sorted(formula_ways(formula, kinds))
            for _ in range(4):
                pool = tuple(chance.randint(0, chance.choice((3, 6))) for _ in kinds)
                lot = tuple(kind for kind in kinds if chance.random() < 0.8)
                other = tuple(kind for kind in kinds if chance.random() < 0.8)
                rows = [self.ways_of_lot(ways, kinds, lot), self.ways_of_lot(ways, kinds, other)]
                found = numbers_of_two(rows, pool, {})
                limits = (max(x for x, _ in found), max(y for _, y in found), max(map(sum, found)))
                self.assertEqual(hand_limits(formula, pool, lot, other), limits)
                both += limits[2] < limits[0] + limits[1]
                for one in range(limits[0] + 2):
                    for two in range(limits[1] + 2):
                        told = share_pool(formula, pool, lot, other, one, two)
                        right = one <= limits[0] and two <= limits[1] and one + two <= limits[2]
                        self.assertIs((one, two) in found, right)
                        self.assertIs(told is not None, right)
                        if right:
                            self.check_shares(formula, pool, (lot, other), (one, two), told)
        self.assertGreater(both, 100)

    def check_shares(self, formula, pool, lots, numbers, told):
        self.assertIsInstance(told, tuple)
        self.assertTrue(within(plus(*told), pool))
        for lot, number, part in zip(lots, numbers, told):
            self.assertTrue(all(amount >= 0 for amount in part))
            usable = tuple(amount if kind in lot else 0 for kind, amount in zip(named(formula), part))
            self.assertGreaterEqual(pieces(formula, usable), number)

    def test_great(self):
        chance = random.Random(49)
        for formula in some_formulas(481, 150, kinds=8, top=60):
            kinds = named(formula)
            pool = tuple(chance.randint(0, GREAT) for _ in kinds)
            lot = tuple(kind for kind in kinds if chance.random() < 0.9)
            other = tuple(kind for kind in kinds if chance.random() < 0.9)
            one, two, all_of_them = hand_limits(formula, pool, lot, other)
            for many, rest in ((one, all_of_them - one), (all_of_them - two, two), (one // 2, (all_of_them - one) // 2)):
                told = share_pool(formula, pool, lot, other, many, rest)
                self.check_shares(formula, pool, (lot, other), (many, rest), told)
            self.assertIsNone(share_pool(formula, pool, lot, other, one + 1, 0))
            self.assertIsNone(share_pool(formula, pool, lot, other, 0, two + 1))
            self.assertIsNone(share_pool(formula, pool, lot, other, one, all_of_them - one + 1))

    def test_errors(self):
        for pool in STRANGE + ((1, 1), [1, 1, 1], "abc", (1, 1, 1, 1)):
            if pool.__class__ is not tuple or len(pool) != 3:
                self.fault(InvalidPool, -1, hand_limits, FORMULA, pool, None, None)
                self.fault(InvalidPool, -1, share_pool, FORMULA, pool, None, None, None, None)
        for item in strange_numbers() + [GREAT + 1]:
            self.fault(InvalidPool, 1, hand_limits, FORMULA, (1, item, item), None, None)
            self.fault(InvalidPool, 1, share_pool, FORMULA, (1, item, item), None, None, None, None)
        for lot in strange_lots():
            self.fault(Refused, "lot", hand_limits, FORMULA, (1, 2, 3), lot, lot)
            self.fault(Refused, "lot", share_pool, FORMULA, (1, 2, 3), lot, lot, None, None)
            self.fault(Refused, "other", hand_limits, FORMULA, (1, 2, 3), ("a",), lot)
            self.fault(Refused, "other", share_pool, FORMULA, (1, 2, 3), (), lot, None, None)
        for value in strange_numbers():
            self.fault(InvalidNumber, "many", share_pool, FORMULA, (1, 2, 3), (), ("a",), value, value)
            self.fault(InvalidNumber, "rest", share_pool, FORMULA, (1, 2, 3), (), ("a",), 10 ** 30, value)


if __name__ == "__main__":
    unittest.main()
