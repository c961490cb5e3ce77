"""[32], and what stands before [31]: sides."""

import random
import unittest
from fractions import Fraction

from asmany.errors import InvalidPool, Refused
from asmany.pieces import pieces, pieces_with_plenty
from asmany.shows import read_formula
from asmany.sides import all_sides, is_side, side_pieces, tight_sides
from plain import STRANGE, Case, all_normal_formulas, formula_ways, least_lots, lengths, named
from plain import some_formulas, strange_but, strange_lots, strange_numbers, subsets

FORMULA = read_formula("2 of (a or (b and c))")
SIXTY = ("many", 60, ("or", tuple(("kind", name) for name in "abcdefgh")))
GREAT = 10 ** 18


def plain_sides(ways, kinds):
    """The least lots of kinds of which every way uses one or more."""
    hitting = [lot for lot in subsets(kinds)
               if all(any(amount and kind in lot for kind, amount in zip(kinds, way)) for way in ways)]
    return least_lots(hitting)


def small_formulas(seed, most=60):
    found = all_normal_formulas("ab", 6) + all_normal_formulas("abc", 3) + some_formulas(seed, 200, kinds=6, top=4)
    return [formula for formula in found if len(formula_ways(formula, named(formula))) <= most]


class Sides(Case):

    def test_examples(self):
        self.assertEqual(all_sides(formula=FORMULA), (("a", "b"), ("a", "c")))
        self.assertEqual(tight_sides(formula=FORMULA, pool=(1, 0, 1)), (("a", "b"),))
        self.assertEqual(tight_sides(FORMULA, (1, 1, 1)), (("a", "b"), ("a", "c")))
        self.assertEqual(side_pieces(formula=FORMULA, pool=(1, 0, 1), side=("a", "c")), 1)
        self.assertEqual(side_pieces(FORMULA, (1, 0, 1), ("a", "b")), 0)
        self.assertIs(is_side(formula=FORMULA, value=("a", "b")), True)
        self.assertEqual(all_sides(("kind", "x")), (("x",),))
        self.assertEqual(all_sides(read_formula("2 of z and (y or x) and 3 of w")), (("w",), ("x", "y"), ("z",)))

    def test_all_sides(self):
        """The least lots of which every way uses a kind; of a side the parts of sizes sum to 1."""
        for formula in small_formulas(320):
            kinds = named(formula)
            ways = formula_ways(formula, kinds)
            sides = all_sides(formula)
            self.assertEqual(sides, plain_sides(ways, kinds))
            sizes = [max(way[k] for way in ways) for k in range(len(kinds))]
            for lot in subsets(kinds):
                self.assertIs(is_side(formula, lot), lot in sides)
            for side in sides:
                for way in ways:
                    shares = [Fraction(way[k], sizes[k]) for k in range(len(kinds)) if kinds[k] in side]
                    self.assertEqual(sum(shares), 1)

    def test_numbers(self):
        """The number of pieces is the least number of a side; a side does not care for other kinds."""
        chance = random.Random(32)
        unlike = 0
        for formula in small_formulas(321):
            kinds = named(formula)
            ways = sorted(formula_ways(formula, kinds))
            for _ in range(4):
                pool = tuple(chance.randint(0, 5) for _ in kinds)
                numbers = {side: side_pieces(formula, pool, side) for side in all_sides(formula)}
                self.assertEqual((min(numbers.values()),), lengths(ways, pool))
                tight = tuple(side for side in numbers if numbers[side] == min(numbers.values()))
                self.assertEqual(tight_sides(formula, pool), tight)
                unlike += 1 < len(numbers) != len(tight)
                for side, number in numbers.items():
                    others = tuple(kind for kind in kinds if kind not in side)
                    self.assertEqual(number, pieces_with_plenty(formula, pool, others))
                    wide = tuple(amount if kind in side else 10 ** 6 for kind, amount in zip(kinds, pool))
                    self.assertEqual(number, pieces(formula, wide))
        self.assertGreater(unlike, 150)

    def test_great(self):
        self.assertEqual(all_sides(SIXTY), (tuple("abcdefgh"),))
        self.assertEqual(side_pieces(SIXTY, (GREAT,) * 8, tuple("abcdefgh")), 8 * GREAT // 60)
        formula = read_formula("(a and b and c) or (d and e and f) or 30 of (g and 2 of h)")
        self.assertEqual(len(all_sides(formula)), 18)
        self.assertEqual(all_sides(formula)[0], ("a", "d", "g"))
        pool = (5, 4, 3, GREAT, GREAT - 1, GREAT, 300, 599)
        self.assertEqual(side_pieces(formula, pool, ("c", "e", "h")), 3 + GREAT - 1 + 9)
        self.assertEqual(side_pieces(formula, pool, ("a", "d", "g")), 5 + GREAT + 10)
        self.assertEqual(tight_sides(formula, pool), (("c", "e", "h"),))
        self.assertEqual(len(all_sides(("and", tuple(("kind", name) for name in "abcdefgh")))), 8)

    def test_many_inside_of_sides(self):
        formula = read_formula("2 of (a or 3 of (b and 2 of c))")
        self.assertEqual(all_sides(formula), (("a", "b"), ("a", "c")))
        self.assertEqual([side_pieces(formula, (1, 8, 17), side) for side in all_sides(formula)], [1, 1])
        self.assertEqual([side_pieces(formula, (1, 8, 18), side) for side in all_sides(formula)], [1, 2])

    def test_wrong_values(self):
        for value in STRANGE + tuple(strange_lots()) + (("b",), ("a",), ("b", "c"), ("a", "b", "c"), ("b", "a"), ("a", "a"),
                                                        ["a", "b"], "ab", ("a", "b", "b"), ("a", "d")):
            self.assertIs(is_side(FORMULA, value), False)
            self.fault(Refused, "side", side_pieces, FORMULA, (1, 1, 1), value)

    def test_wrong_pools(self):
        for pool in strange_but(3):
            self.fault(InvalidPool, -1, side_pieces, FORMULA, pool, None)
            self.fault(InvalidPool, -1, tight_sides, FORMULA, pool)
        for item in strange_numbers() + [GREAT + 1]:
            self.fault(InvalidPool, 1, side_pieces, FORMULA, (GREAT, item, item), None)
            self.fault(InvalidPool, 2, tight_sides, FORMULA, (GREAT, 0, item))


if __name__ == "__main__":
    unittest.main()
