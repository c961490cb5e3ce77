"""[88] count_as and fall_pools, and what stands before [85]: bundles counted as pieces."""

import random
import unittest

from asmany.accounts import count_as, fall_pools
from asmany.errors import Refused
from asmany.pieces import pieces
from asmany.shows import read_formula
from plain import STRANGE, Case, Stubborn, all_normal_formulas, boxes, formula_ways, lengths, minus, named, plus
from plain import some_formulas, within

FORMULA = read_formula("a and 2 of (b or c)")
SIXTY = ("many", 60, ("or", tuple(("kind", name) for name in "abcdefgh")))


def bundle(kinds, amounts):
    return tuple((kind, amount) for kind, amount in zip(kinds, amounts) if amount)


def is_sum(ways, amounts, number):
    """Whether amounts are a sum of so many ways."""
    if number == 0:
        return not any(amounts)
    return any(within(way, amounts) and is_sum(ways, minus(amounts, way), number - 1) for way in ways)


class Accounts(Case):

    def test_examples(self):
        self.assertEqual(count_as(formula=FORMULA, bundle=(("a", 3), ("b", 1), ("c", 5))), 3)
        self.assertIsNone(count_as(FORMULA, (("a", 3), ("b", 1), ("c", 4))))
        self.assertEqual(count_as(FORMULA, (("z", 60),)), 0)
        self.assertEqual(count_as(FORMULA, (("a", 1), ("b", 2), ("x", 7))), 1)
        self.assertIsNone(fall_pools(formula=FORMULA, bundle=(("a", 1), ("b", 2), ("x", 7))))
        self.assertIsNone(fall_pools(FORMULA, (("z", 60),)))
        self.check_pools(FORMULA, (("a", 1),))
        self.check_pools(FORMULA, (("b", 1), ("z", 1)))

    def check_pools(self, formula, told):
        """Check two pools that have the amounts, from which the numbers fall unequally."""
        kinds = named(formula)
        amounts = tuple(dict(told).get(kind, 0) for kind in kinds)
        one, other = fall_pools(formula, told)
        falls = []
        for pool in (one, other):
            self.assertEqual(len(pool), len(kinds))
            self.assertTrue(all(amount.__class__ is int and 0 <= amount <= 10 ** 18 for amount in pool))
            self.assertTrue(within(amounts, pool))
            falls.append(pieces(formula, pool) - pieces(formula, minus(pool, amounts)))
        self.assertNotEqual(*falls)

    def test_small(self):
        """A bundle counts as k exactly if it lowers the number by k from all pools that have it."""
        told = [0, 0]
        chance = random.Random(88)
        formulas = all_normal_formulas("ab", 4) + all_normal_formulas("abc", 2)[::3] + some_formulas(880, 60, kinds=3, top=4)
        for formula in formulas:
            kinds = named(formula)
            ways = sorted(formula_ways(formula, kinds))
            known = {}
            for amounts in boxes([4] * len(kinds)):
                if chance.random() < 0.7 or not any(amounts):
                    continue
                row = bundle(kinds, amounts)
                counts = [number for number in range(sum(amounts) + 1) if is_sum(ways, amounts, number)]
                self.assertLessEqual(len(counts), 1)
                self.assertEqual(count_as(formula, row), counts[0] if counts else None)
                falls = {lengths(ways, plus(amounts, more), known)[0] - lengths(ways, more, known)[0]
                         for more in boxes([3] * len(kinds))}
                told[len(counts)] += 1
                if counts:
                    self.assertEqual(falls, set(counts))
                    self.assertIsNone(fall_pools(formula, row))
                else:
                    self.check_pools(formula, row)
                further = tuple(sorted(row + (("z", 3), ("aa", 2))))
                self.assertEqual(count_as(formula, further), counts[0] if counts else None)
                self.assertEqual(fall_pools(formula, further), fall_pools(formula, row))
        self.assertGreater(min(told), 300)

    def test_great(self):
        chance = random.Random(89)
        some = [0, 0]
        for formula in some_formulas(881, 150, kinds=8, top=60) + [SIXTY]:
            for _ in range(6):
                row = tuple((kind, chance.randint(1, 60)) for kind in named(formula) if chance.random() < 0.8)
                if row and count_as(formula, row) is None:
                    self.check_pools(formula, row)
                    some[0] += 1
                elif row:
                    self.assertIsNone(fall_pools(formula, row))
                    some[1] += 1
        self.assertGreater(some[0], 300)
        self.assertGreater(some[1], 30)
        self.assertEqual(count_as(SIXTY, tuple((name, 60) for name in "abcdefgh")), 8)
        self.assertEqual(count_as(SIXTY, (("a", 30), ("h", 30))), 1)
        self.check_pools(SIXTY, (("a", 30), ("h", 31)))

    def test_no_bundles(self):
        wrong = STRANGE + ((("a", 1), ("a", 1)), (("b", 1), ("a", 1)), (("a", 0),), (("a", 61),), (("a", True),), (("A", 1),),
                           [("a", 1)], (["a", 1],), {"a": 1}, (("a", 1, 1),), ("a", 1), (("a", None),), (("a", 1.0),),
                           (("", 1),), (("abcdef", 1),), (Stubborn(), ("b", 1)), ((Stubborn(), 1),), (("a", Stubborn()),))
        for value in wrong:
            self.fault(Refused, "bundle", count_as, FORMULA, value)
            self.fault(Refused, "bundle", fall_pools, FORMULA, value)


if __name__ == "__main__":
    unittest.main()
