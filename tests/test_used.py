"""[51] to [53], and what stands before [49]: bounds on what is left, and the cheapest and dearest."""

import itertools
import random
import unittest

from asmany.errors import InvalidNumber, InvalidPool
from asmany.left import can_be_left
from asmany.pieces import pieces
from asmany.shows import read_formula
from asmany.used import cheapest_left, dearest_left, is_left_sure, left_bounds, unlike_lefts, unsure_pool
from plain import Case, all_normal_formulas, formula_ways, minus, named, some_formulas, strange_but, strange_numbers, within

FORMULA = read_formula("a and (b or 2 of c)")
EIGHT = tuple(("kind", name) for name in "abcdefgh")
SIXTY = ("many", 60, ("or", EIGHT))
GREAT = 10 ** 18


def plain_left(ways, pool, known):
    """All pools that full runs leave, by a walk through all of them."""
    if pool not in known:
        found = [plain_left(ways, minus(pool, way), known) for way in ways if within(way, pool)]
        known[pool] = frozenset().union(*found) if found else frozenset((pool,))
    return known[pool]


def worth(pool, prices):
    return sum(x * y for x, y in zip(pool, prices))


def small_formulas(seed, most=40):
    found = all_normal_formulas("ab", 5) + all_normal_formulas("abc", 3)[::3] + some_formulas(seed, 150, kinds=4, top=4)
    return [formula for formula in found if len(formula_ways(formula, named(formula))) <= most]


class Used(Case):

    def test_examples(self):
        self.assertEqual(left_bounds(formula=FORMULA, pool=(1, 1, 3)), ((0, 0), (0, 1), (1, 3)))
        great = 999999999999999991
        self.assertEqual(left_bounds(FORMULA, (GREAT, 5, 8)), ((great, great), (0, 0), (0, 0)))
        self.assertEqual(cheapest_left(formula=FORMULA, pool=(1, 1, 3), prices=(0, 1, 1)), (0, 1, 1))
        self.assertEqual(dearest_left(formula=FORMULA, pool=(1, 1, 3), prices=(0, 1, 1)), (0, 0, 3))
        self.assertIs(is_left_sure(formula=FORMULA, pool=(1, 1, 3)), False)
        self.assertIs(is_left_sure(FORMULA, (9, 1, 3)), True)
        self.assertEqual(sorted(unlike_lefts(formula=FORMULA, pool=(1, 1, 3))), [(0, 0, 3), (0, 1, 1)])
        self.assertIsNone(unlike_lefts(FORMULA, (9, 1, 3)))
        self.assertIs(is_left_sure(FORMULA, unsure_pool(formula=FORMULA)), False)
        self.assertIsNone(unsure_pool(read_formula("2 of a or (b and 3 of c)")))

    def test_small(self):
        chance = random.Random(51)
        told = [0, 0]
        for formula in small_formulas(510):
            kinds = named(formula)
            ways = sorted(formula_ways(formula, kinds))
            known = {}
            for _ in range(4):
                pool = tuple(chance.randint(0, chance.choice((3, 6))) for _ in kinds)
                found = plain_left(ways, pool, known)
                bounds = tuple((min(column), max(column)) for column in zip(*found))
                self.assertEqual(left_bounds(formula, pool), bounds)
                sure = len(found) == 1
                told[sure] += 1
                self.assertIs(is_left_sure(formula, pool), sure)
                self.assertIs(all(low == high for low, high in bounds), sure)
                pair = unlike_lefts(formula, pool)
                self.assertIs(pair is None, sure)
                if pair is not None:
                    self.assertIs(pair.__class__, tuple)
                    self.assertEqual(len(pair), 2)
                    self.assertNotEqual(*pair)
                    self.assertTrue(set(pair) <= found)
                for top in (1, 3, GREAT):
                    prices = tuple(chance.randint(0, top) for _ in kinds)
                    worths = [worth(one, prices) for one in found]
                    cheap, dear = cheapest_left(formula, pool, prices), dearest_left(formula, pool, prices)
                    self.assertTrue({cheap, dear} <= found)
                    self.assertEqual((worth(cheap, prices), worth(dear, prices)), (min(worths), max(worths)))
        self.assertGreater(min(told), 60)

    def test_steps(self):
        """What k pieces use at most grows by less and less."""
        chance = random.Random(52)
        for formula in small_formulas(511, most=15)[::2]:
            kinds = named(formula)
            ways = sorted(formula_ways(formula, kinds))
            pool = tuple(chance.randint(0, 6) for _ in kinds)
            prices = tuple(chance.randint(0, 5) for _ in kinds)
            most, now = [0], {pool}
            while True:
                now = {minus(one, way) for one in now for way in ways if within(way, one)}
                if not now:
                    break
                most.append(worth(pool, prices) - min(worth(one, prices) for one in now))
            steps = [other - one for one, other in itertools.pairwise(most)]
            self.assertEqual(steps, sorted(steps, reverse=True))
            self.assertEqual(worth(cheapest_left(formula, pool, prices), prices), worth(pool, prices) - most[-1])

    def test_great(self):
        chance = random.Random(53)
        for formula in some_formulas(512, 120, kinds=8, top=60) + [SIXTY]:
            kinds = named(formula)
            pool = tuple(chance.choice((chance.randint(0, 60), chance.randint(0, GREAT))) for _ in kinds)
            prices = tuple(chance.randint(0, GREAT) for _ in kinds)
            cheap, dear = cheapest_left(formula, pool, prices), dearest_left(formula, pool, prices)
            bounds = left_bounds(formula, pool)
            for one in (cheap, dear):
                self.assertIs(can_be_left(formula, pool, one), True)
                self.assertTrue(all(low <= amount <= high for amount, (low, high) in zip(one, bounds)))
            self.assertLessEqual(worth(cheap, prices), worth(dear, prices))
            for at, (low, high) in enumerate(bounds):
                one = tuple(int(k == at) for k in range(len(kinds)))
                self.assertEqual(cheapest_left(formula, pool, one)[at], low)
                self.assertEqual(dearest_left(formula, pool, one)[at], high)
            pair = unlike_lefts(formula, pool)
            self.assertIs(pair is None, is_left_sure(formula, pool))
            if pair:
                self.assertTrue(all(can_be_left(formula, pool, one) for one in pair) and pair[0] != pair[1])
            self.check_unsure(formula)

    def check_unsure(self, formula):
        pool = unsure_pool(formula)
        if pool is None:
            return False
        self.assertEqual(len(pool), len(named(formula)))
        self.assertTrue(all(0 <= amount <= GREAT for amount in pool))
        self.assertIs(is_left_sure(formula, pool), False)
        self.assertEqual(pieces(formula, pool), 1)
        return True

    def test_unsure_pools(self):
        """There is none exactly if no two ways use a common kind."""
        told = [0, 0]
        for formula in small_formulas(513) + [read_formula(text) for text in (
                "a or b", "(a and b) or c", "2 of (a or b)", "a and (b or c)", "(a or b) and (c or d)", "60 of a",
                "a or 2 of (b or c)", "2 of ((a and b) or (c and d))", "a or ((b or c) and (d or e))", "2 of (3 of a and 4 of b)")]:
            ways = sorted(formula_ways(formula, named(formula)))
            common = any(x and y for one, other in itertools.combinations(ways, 2) for x, y in zip(one, other))
            self.assertIs(self.check_unsure(formula), common)
            told[common] += 1
            if common:
                self.assertGreater(len(plain_left(ways, unsure_pool(formula), {})), 1)
            for one, other in itertools.combinations(ways, 2):
                if any(x and y for x, y in zip(one, other)):
                    pool = tuple(map(max, one, other))
                    found = plain_left(ways, pool, {})
                    self.assertTrue({minus(pool, one), minus(pool, other)} <= found)
                    self.assertEqual((pieces(formula, pool), is_left_sure(formula, pool)), (1, False))
        self.assertGreater(min(told), 30)

    def test_wrong_pools(self):
        for call, more in ((left_bounds, ()), (cheapest_left, (None,)), (dearest_left, (None,)), (is_left_sure, ()), (unlike_lefts, ())):
            for pool in strange_but(3):
                self.fault(InvalidPool, -1, call, FORMULA, pool, *more)
            for item in strange_numbers() + [GREAT + 1]:
                self.fault(InvalidPool, 1, call, FORMULA, (1, item, item), *more)

    def test_wrong_prices(self):
        for call in (cheapest_left, dearest_left):
            for prices in list(strange_but(3)) + [(1, 1), [1, 1, 1], (1, 1, 1, 1)]:
                self.fault(InvalidNumber, "prices", call, FORMULA, (1, 1, 1), prices)
            for item in strange_numbers() + [GREAT + 1]:
                self.fault(InvalidNumber, "prices", call, FORMULA, (1, 1, 1), (1, item, 1))


if __name__ == "__main__":
    unittest.main()
