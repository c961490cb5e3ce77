"""[41], [42], and what stands before [37]: numbers of sessions and what shows them."""

import random
import unittest

from asmany.errors import InvalidPool, Refused
from asmany.layouts import share
from asmany.pieces import pieces
from asmany.serving import sessions_needed, side_sessions, tight_session_side, whole_cover
from asmany.shows import read_formula
from asmany.sides import all_sides
from plain import STRANGE, Case, all_normal_formulas, boxes, formula_ways, least_lots, minus, named, plain_sessions, plus
from plain import rounds, some_formulas, strange_but, strange_lots, strange_numbers, subsets, within

FORMULA = read_formula("2 of (a or (b and c))")
SIXTY = ("many", 60, ("or", tuple(("kind", name) for name in "abcdefgh")))
GREAT = 10 ** 18


def small_formulas(seed, most=40):
    found = all_normal_formulas("ab", 5) + all_normal_formulas("abc", 3)[::3] + some_formulas(seed, 150, kinds=4, top=4)
    return [formula for formula in found if len(formula_ways(formula, named(formula))) <= most]


def fewest(ways, demand):
    """The least number of ways whose sum has a demand within it."""
    number, sums = 0, {(0,) * len(demand)}
    while not any(within(demand, one) for one in sums):
        sums = {tuple(min(x + y, z) for x, y, z in zip(one, way, demand)) for one in sums for way in ways}
        number += 1
    return number


def by_side(formula, table, side):
    """The number by a side, by the words of the document."""
    if formula[0] == "kind":
        return table[formula[1]]
    if formula[0] == "many":
        return -(-by_side(formula[2], table, side) // formula[1])
    numbers = [by_side(part, table, side) for part in formula[1] if set(named(part)) & set(side)]
    return sum(numbers) if formula[0] == "or" else numbers[0]


class Sessions(Case):

    def test_examples(self):
        self.assertEqual(sessions_needed(formula=FORMULA, demand=(1, 2, 4)), 3)
        self.assertEqual(side_sessions(formula=FORMULA, demand=(1, 2, 4), side=("a", "b")), 2)
        self.assertEqual(side_sessions(FORMULA, (1, 2, 4), ("a", "c")), 3)
        self.assertEqual(tight_session_side(formula=FORMULA, demand=(1, 2, 4)), ("a", "c"))
        self.assertEqual(share(FORMULA, whole_cover(formula=FORMULA, demand=(1, 2, 4))), 3)
        self.assertEqual(sessions_needed(FORMULA, (0, 0, 0)), 0)
        self.assertEqual(whole_cover(FORMULA, (0, 0, 0)), (0, 0, 0))

    def test_rounds(self):
        """All complete rounds have this length, which each session lowers by 1, and nothing by more."""
        chance = random.Random(41)
        for formula in small_formulas(410):
            kinds = named(formula)
            ways = sorted(formula_ways(formula, kinds))
            known = {}
            for _ in range(3):
                demand = tuple(chance.randint(0, 3) for _ in kinds)
                number = sessions_needed(formula, demand)
                self.assertEqual(tuple(rounds(ways, demand, known)[0]), (number,))
                self.assertEqual(fewest(ways, demand), number)
                for session in plain_sessions(ways, demand):
                    self.assertEqual(sessions_needed(formula, minus(demand, session)), number - 1)
                for row in boxes(demand):
                    if any(within(row, way) for way in ways):
                        self.assertGreaterEqual(sessions_needed(formula, minus(demand, row)), number - 1)

    def test_what_is_left_for_pieces(self):
        """What a demand leaves of a sum of m ways makes m less the sessions needed pieces."""
        chance = random.Random(42)
        for formula in some_formulas(411, 200, kinds=5, top=6):
            ways = sorted(formula_ways(formula, named(formula)))
            for _ in range(4):
                number = chance.randint(0, 4)
                total = (0,) * len(ways[0])
                for _ in range(number):
                    total = plus(total, chance.choice(ways))
                demand = tuple(chance.randint(0, amount) for amount in total)
                self.assertEqual(pieces(formula, minus(total, demand)), number - sessions_needed(formula, demand))

    def test_sides(self):
        chance = random.Random(43)
        told = [0, 0]
        for formula in small_formulas(412) + some_formulas(413, 60, kinds=8, top=60):
            kinds = named(formula)
            for _ in range(3):
                demand = tuple(chance.choice((chance.randint(0, 9), chance.randint(0, GREAT))) for _ in kinds)
                table = dict(zip(kinds, demand))
                numbers = {side: by_side(formula, table, side) for side in all_sides(formula)}
                for side, number in numbers.items():
                    self.assertEqual(side_sessions(formula, demand, side), number)
                number = sessions_needed(formula, demand)
                self.assertEqual(max(numbers.values()), number)
                side = tight_session_side(formula, demand)
                self.assertEqual(numbers[side], number)
                told[len(set(numbers.values())) > 1] += 1
        self.assertGreater(min(told), 100)

    def test_never_fewer(self):
        """Tuples that are each within a way, and sum to the demand, are never fewer than by a side."""
        for formula in small_formulas(414, most=12)[::3]:
            kinds = named(formula)
            ways = sorted(formula_ways(formula, kinds))
            for demand in boxes([2] * len(kinds)):
                number = fewest(ways, demand)
                for side in all_sides(formula):
                    self.assertLessEqual(side_sessions(formula, demand, side), number)
            sides = least_lots([lot for lot in subsets(kinds)
                                if all(any(way[kinds.index(kind)] for kind in lot) for way in ways)])
            self.assertEqual(all_sides(formula), sides)

    def test_covers(self):
        chance = random.Random(44)
        for formula in small_formulas(415) + some_formulas(416, 100, kinds=8, top=60) + [SIXTY]:
            for top in (3, 60, GREAT):
                demand = tuple(chance.randint(0, top) for _ in named(formula))
                cover = whole_cover(formula, demand)
                self.assertTrue(within(demand, cover))
                self.assertEqual(share(formula, cover), sessions_needed(formula, demand))
        # Its amounts may exceed those of a pool.
        formula = read_formula("a and 60 of b")
        self.assertEqual(whole_cover(formula, (GREAT, 1)), (GREAT, 60 * GREAT))

    def test_great(self):
        self.assertEqual(sessions_needed(SIXTY, (GREAT,) * 8), -(-8 * GREAT // 60))
        formula = read_formula("(a or b) and 7 of (c or 8 of (d or e))")
        self.assertEqual(sessions_needed(formula, (GREAT, GREAT, 3, GREAT, GREAT)), 2 * GREAT)
        self.assertEqual(sessions_needed(formula, (0, 5, GREAT, 1, 0)), (GREAT + 1 + 6) // 7)

    def test_wrong_demands(self):
        calls = ((sessions_needed, ()), (side_sessions, (None,)), (tight_session_side, ()), (whole_cover, ()))
        for call, more in calls:
            for demand in strange_but(3):
                self.fault(InvalidPool, -1, call, FORMULA, demand, *more)
            for item in strange_numbers() + [GREAT + 1]:
                self.fault(InvalidPool, 1, call, FORMULA, (GREAT, item, item), *more)

    def test_wrong_sides(self):
        for value in STRANGE + tuple(strange_lots()) + (("a",), ("b", "c"), ("a", "b", "c"), ("b", "a"), ["a", "b"]):
            self.fault(Refused, "side", side_sessions, FORMULA, (1, 1, 1), value)


if __name__ == "__main__":
    unittest.main()
