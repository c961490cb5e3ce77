"""[49], [50], and what stands before [49]: what can be left."""

import itertools
import random
import unittest

from asmany.errors import InvalidNumber, InvalidPool, Refused
from asmany.left import can_be_left, count_left, is_used_up, left_pools
from asmany.pieces import pieces
from plain import STRANGE, Case, Stubborn, boxes, formula_ways, minus, named, plus, some_formulas
from plain import strange_numbers, within

A, B, C, D, E, F, G, H = EIGHT = tuple(("kind", name) for name in "abcdefgh")
FORMULA = ("and", (A, ("or", (B, ("many", 2, C)))))
GREAT = 10 ** 18


def plain_left(ways, pool, known):
    """All pools that full runs leave, by a walk through all of them."""
    if pool not in known:
        found = [plain_left(ways, minus(pool, way), known) for way in ways if within(way, pool)]
        known[pool] = frozenset().union(*found) if found else frozenset((pool,))
    return known[pool]


class Left(Case):

    def test_examples(self):
        self.assertEqual(left_pools(FORMULA, (1, 1, 3)), ((0, 0, 3), (0, 1, 1)))
        self.assertEqual(count_left(FORMULA, (5, 3, 9)), 3)
        self.assertIs(can_be_left(FORMULA, (1, 1, 3), (0, 1, 3)), False)
        self.assertIs(can_be_left(formula=FORMULA, pool=(1, 1, 3), value=(0, 1, 1)), True)
        self.assertIs(is_used_up(FORMULA, (2, 1, 2)), True)
        self.assertIs(is_used_up(formula=FORMULA, pool=(2, 1, 3)), False)
        self.assertIs(is_used_up(FORMULA, (0, 0, 0)), True)
        self.assertEqual(left_pools(formula=FORMULA, pool=(0, 5, 5)), ((0, 5, 5),))
        self.assertEqual(count_left(formula=FORMULA, pool=(0, 5, 5)), 1)
        self.assertIs(can_be_left(FORMULA, (GREAT,) * 3, (0, 0, GREAT)), True)
        self.assertIs(can_be_left(FORMULA, (GREAT,) * 3, (0, GREAT // 2, 0)), True)
        self.assertIs(can_be_left(FORMULA, (GREAT,) * 3, (0, GREAT // 2, 1)), False)
        self.assertIs(is_used_up(("or", (A, B)), (GREAT, GREAT)), True)

    def test_more_than_there_is(self):
        """What is left is never more of a kind than there was."""
        formula = ("many", 2, ("or", (A, B)))
        self.assertEqual(left_pools(formula, (0, 5)), ((0, 1),))
        for value in ((1, 0), (2, 0), (3, 1), (0, 6), (1, 1)):
            self.assertIs(can_be_left(formula, (0, 5), value), False)

    def test_many(self):
        """The pools for which the difference is a sum of as many ways as there are pieces."""
        chance = random.Random(50)
        some = [0, 0]
        for formula in some_formulas(500, 200, kinds=4, top=5):
            kinds = named(formula)
            ways = sorted(formula_ways(formula, kinds))
            known = {}
            for _ in range(6):
                pool = tuple(chance.randint(0, chance.choice((2, 6))) for _ in kinds)
                if chance.randint(0, 2) == 0:
                    pool = (0,) * len(kinds)
                    for way in chance.choices(ways, k=chance.randint(0, 3)):
                        pool = plus(pool, way)
                found = tuple(sorted(plain_left(ways, pool, known)))
                self.assertEqual(left_pools(formula, pool), found)
                self.assertEqual(count_left(formula, pool), len(found))
                # If one full run leaves nothing, all do.
                empty = (0,) * len(kinds)
                self.assertIs(is_used_up(formula, pool), empty in found)
                self.assertTrue(empty not in found or len(found) == 1)
                some[empty in found] += 1
                for value in itertools.islice(boxes(pool), 400):
                    self.assertIs(can_be_left(formula, pool, value), value in found)
        self.assertGreater(min(some), 200)

    def test_product_of_a_thousand(self):
        two = ("or", (A, B))
        self.assertEqual(count_left(two, (400, 600)), 1)
        self.assertEqual(left_pools(two, (400, 600)), ((0, 0),))
        self.fault(Refused, "wide", count_left, two, (400, 601))
        self.fault(Refused, "wide", left_pools, two, (400, 601))
        many = ("and", (("many", 20, two), C))
        self.assertEqual(count_left(many, (GREAT, GREAT, 50)), 1001)
        self.assertEqual(left_pools(many, (GREAT, GREAT, 50)), tuple(
            (GREAT - 1000 + x, GREAT - x, 0) for x in range(1001)))
        self.fault(Refused, "wide", count_left, many, (GREAT, GREAT, 51))
        self.fault(Refused, "wide", left_pools, many, (GREAT, GREAT, 51), most=100000)
        wide = ("and", (("or", EIGHT[:7]), H))
        self.assertEqual(count_left(wide, (GREAT,) * 7 + (1000,)), self.choose(1006, 6))
        self.fault(Refused, "wide", left_pools, wide, (GREAT,) * 7 + (1000,), most=100000)
        self.fault(Refused, "wide", count_left, wide, (GREAT,) * 7 + (1001,))
        self.assertEqual(left_pools(("or", EIGHT), (125,) * 8), ((0,) * 8,))
        self.assertEqual(len(left_pools(wide, (125,) * 6 + (GREAT, 2))), self.choose(8, 2))

    def choose(self, n, k):
        number = 1
        for at in range(k):
            number = number * (n - at) // (at + 1)
        return number

    def test_nothing_is_laid_out_in_vain(self):
        """Many pools could be taken in part, but few in all."""
        part = ("and", (("or", (A, B)), ("or", (C, D))))
        other = ("and", (("or", (E, F)), ("or", (G, H))))
        formula = ("or", (part, other))
        self.assertEqual(left_pools(formula, (250,) * 8), ((0,) * 8,))
        self.assertEqual(left_pools(formula, (250,) * 7 + (249,))[-1], (0, 0, 0, 0, 1, 0, 0, 0))
        self.assertEqual(len(left_pools(("many", 2, formula), (250,) * 7 + (249,))), count_left(
            ("many", 2, formula), (250,) * 7 + (249,)))

    def test_numbers_of_pools(self):
        formula = ("and", (("or", (A, B)), ("or", (C, D)), E))
        pool = (GREAT, GREAT, GREAT, GREAT, 40)
        self.assertEqual(count_left(formula, pool), 41 * 41)
        found = left_pools(formula, pool, most=41 * 41)
        self.assertEqual(left_pools(formula, pool, most=41 * 41 + 1), found)
        self.assertEqual(list(found), sorted(set(found)))
        self.fault(Refused, "wide", left_pools, formula, pool, most=41 * 41 - 1)
        self.assertEqual(len(left_pools(formula, pool[:4] + (43,))), 44 * 44)
        self.fault(Refused, "wide", left_pools, formula, pool[:4] + (44,))
        self.assertEqual(len(left_pools(formula, pool[:4] + (315,), most=100000)), 316 * 316)
        self.fault(Refused, "wide", left_pools, formula, pool[:4] + (316,), most=100000)
        self.assertRaises(TypeError, left_pools, formula, pool, 2000)

    def test_any_value(self):
        pool = (1, 1, 3)
        wrong = STRANGE + ([0, 1, 1], (0, 1), (0, 1, 1, 0), (False, 1, 1), (0, True, 1), (0, 1.0, 1), (0, 1, None),
                           (0, 1, "1"), (-1, 1, 1), (0, 1, 3), (1, 1, 1), (0, 0, 4), (0, 0, 10 ** 30), "011", {0: 1},
                           (0, 1, Stubborn()), (Stubborn(),) * 3)
        for value in wrong:
            self.assertIs(can_be_left(FORMULA, pool, value), False)

    def test_errors(self):
        calls = ((is_used_up, ()), (can_be_left, (None,)), (count_left, ()), (left_pools, ()))
        for call, more in calls:
            for pool in STRANGE + ((1, 1), [1, 1, 1], "abc", (1, 1, 1, 1)):
                if pool.__class__ is not tuple or len(pool) != 3:
                    self.fault(InvalidPool, -1, call, FORMULA, pool, *more)
            for item in strange_numbers() + [GREAT + 1]:
                self.fault(InvalidPool, 1, call, FORMULA, (1, item, item), *more)
        self.fault(InvalidPool, -1, left_pools, FORMULA, None, most=None)
        for most in strange_numbers() + [0, 100001, 10 ** 30]:
            self.fault(InvalidNumber, "most", left_pools, FORMULA, (GREAT,) * 3, most=most)
        self.fault(Refused, "wide", left_pools, FORMULA, (GREAT,) * 3)
        self.assertEqual(pieces(FORMULA, (GREAT,) * 3), GREAT)


if __name__ == "__main__":
    unittest.main()
