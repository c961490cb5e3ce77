"""[36] Buying, and what stands before [31]."""

import itertools
import random
import unittest

from asmany.buying import cheapest, most_for, price_for, price_steps
from asmany.errors import InvalidNumber, InvalidPool
from asmany.pieces import pieces
from plain import STRANGE, Case, boxes, formula_ways, named, plus, some_formulas, strange_numbers

A, B, C, D, E, F, G, H = EIGHT = tuple(("kind", name) for name in "abcdefgh")
FORMULA = ("many", 2, ("or", (A, ("and", (B, C)))))
GREAT = 10 ** 18


def least_price(sums, pool, prices):
    """The least price of what is missing for one of some sums of ways."""
    return min(sum(price * max(x - y, 0) for price, x, y in zip(prices, row, pool)) for row in sums)


class Buying(Case):

    def test_examples(self):
        pool, prices = (1, 0, 1), (5, 2, 2)
        self.assertEqual(price_steps(FORMULA, pool, prices), ((2, 1), (8, None)))
        self.assertEqual(cheapest(FORMULA, pool, prices, 2), (0, 3, 2))
        self.assertEqual(price_for(formula=FORMULA, pool=pool, prices=prices, many=2), 10)
        self.assertEqual(cheapest(formula=FORMULA, pool=pool, prices=prices, many=0), (0, 0, 0))
        self.assertEqual(price_for(FORMULA, pool, prices, 0), 0)
        self.assertEqual(price_for(FORMULA, pool, prices, GREAT), 2 + 8 * (GREAT - 1))
        self.assertEqual([most_for(FORMULA, pool, prices, budget) for budget in (0, 1, 2, 9, 10, 17, 18)],
                         [0, 0, 1, 1, 2, 2, 3])
        self.assertEqual(most_for(formula=FORMULA, pool=pool, prices=prices, budget=2 + 8 * GREAT), GREAT + 1)
        self.assertEqual(price_steps(formula=A, pool=(7,), prices=(3,)), ((0, 7), (3, None)))
        self.assertEqual(price_steps(A, (0,), (3,)), ((3, None),))

    def test_free(self):
        self.assertEqual(price_steps(FORMULA, (1, 2, 3), (0, 5, 5)), ((0, None),))
        self.assertIsNone(most_for(FORMULA, (1, 2, 3), (0, 5, 5), 0))
        self.assertEqual(price_for(FORMULA, (1, 2, 3), (0, 5, 5), 10 ** 40), 0)
        bought = cheapest(FORMULA, (1, 2, 3), (0, 5, 5), 99)
        self.assertEqual(bought[1:], (0, 0))
        self.assertGreaterEqual(pieces(FORMULA, plus((1, 2, 3), bought)), 99)
        self.assertEqual(price_steps(FORMULA, (0, 2, 3), (9, 0, 0)), ((0, None),))
        self.assertEqual(price_steps(FORMULA, (0, 0, 3), (9, 0, 1)), ((0, 1), (1, 1), (2, None)))
        self.assertEqual(price_steps(("and", (A, B)), (5, 0), (0, 4)), ((4, None),))
        self.assertEqual(price_steps(("and", (A, B)), (0, 5), (0, 4)), ((0, 5), (4, None)))

    def test_great(self):
        prices = (GREAT,) * 8
        wide = ("many", 60, ("or", EIGHT))
        pool = (GREAT,) * 8
        made = 8 * GREAT // 60
        self.assertEqual(price_steps(wide, pool, prices), ((0, made), (60 * GREAT - 20 * GREAT, 1), (60 * GREAT, None)))
        self.assertEqual(most_for(wide, pool, prices, 40 * GREAT - 1), made)
        self.assertEqual(most_for(wide, pool, prices, 40 * GREAT), made + 1)
        self.assertEqual(most_for(wide, pool, prices, 10 ** 60), made + 1 + (10 ** 60 - 40 * GREAT) // (60 * GREAT))
        self.assertEqual(sum(cheapest(wide, pool, prices, 10 ** 40)), 60 * 10 ** 40 - 8 * GREAT)

    def check(self, formula, pool, prices, sums):
        costs = [least_price(rows, pool, prices) for rows in sums]
        steps = price_steps(formula, pool, prices)
        told = list(itertools.islice(self.all_steps(steps), len(sums) - 1))
        self.assertEqual(told, [y - x for x, y in zip(costs, costs[1:])])
        self.assertEqual([price for price, _ in steps], sorted({price for price, _ in steps}))
        self.assertTrue(all(number > 0 for _, number in steps[:-1]))
        self.assertIsNone(steps[-1][1])
        for many, cost in enumerate(costs):
            self.assertEqual(price_for(formula, pool, prices, many), cost)
            bought = cheapest(formula, pool, prices, many)
            self.assertTrue(all(amount >= 0 for amount in bought))
            self.assertEqual(sum(x * y for x, y in zip(bought, prices)), cost)
            self.assertGreaterEqual(pieces(formula, plus(pool, bought)), many)
        for budget in range(costs[-1]):
            self.assertEqual(most_for(formula, pool, prices, budget), max(
                many for many, cost in enumerate(costs) if cost <= budget))

    def all_steps(self, steps):
        for price, number in steps:
            yield from itertools.repeat(price, *([] if number is None else [number]))

    def test_many(self):
        """The price of a further piece never falls: all steps, from all sums of so many ways."""
        chance = random.Random(36)
        some = 0
        for formula in some_formulas(360, 200, kinds=4, top=4):
            kinds = named(formula)
            ways = formula_ways(formula, kinds)
            sums = [{(0,) * len(kinds)}]
            while len(sums) < 5 and len(sums[-1]) * len(ways) < 2000:
                sums.append({plus(one, way) for one in sums[-1] for way in ways})
            for _ in range(3):
                pool = tuple(chance.randint(0, chance.choice((0, 2, 6))) for _ in kinds)
                prices = tuple(chance.choice((0, 1, 2, 3, 7)) for _ in kinds)
                self.check(formula, pool, prices, sums)
                some += len(sums)
        self.assertGreater(some, 1500)

    def test_by_trying_all_units(self):
        for formula in some_formulas(361, 40, kinds=3, top=3):
            kinds = named(formula)
            chance = random.Random(1)
            pool = tuple(chance.randint(0, 3) for _ in kinds)
            prices = tuple(chance.randint(0, 5) for _ in kinds)
            for many in range(3):
                units = [row for row in boxes((6,) * len(kinds)) if pieces(formula, plus(pool, row)) >= many]
                self.assertEqual(price_for(formula, pool, prices, many), min(
                    sum(x * y for x, y in zip(row, prices)) for row in units))

    def test_errors(self):
        calls = ((price_for, (None,)), (cheapest, (None,)), (price_steps, ()), (most_for, (None,)))
        for call, more in calls:
            for pool in STRANGE + ((1, 1), [1, 1, 1], "abc", (1, 1, 1, 1)):
                if pool.__class__ is not tuple or len(pool) != 3:
                    self.fault(InvalidPool, -1, call, FORMULA, pool, None, *more)
            for item in strange_numbers() + [GREAT + 1]:
                self.fault(InvalidPool, 1, call, FORMULA, (1, item, item), None, *more)
                self.fault(InvalidNumber, "prices", call, FORMULA, (1, 1, 1), (1, 1, item), *more)
            for prices in STRANGE + ((1, 1), [1, 1, 1], (1, 1, 1, 1), {1: 1}, "123"):
                self.fault(InvalidNumber, "prices", call, FORMULA, (1, 1, 1), prices, *more)
            for value in strange_numbers():
                word = "budget" if call is most_for else "many"
                if more:
                    self.fault(InvalidNumber, word, call, FORMULA, (1, 1, 1), (0, 0, GREAT), value)
        self.assertIsNone(most_for(A, (0,), (0,), 0))
        self.assertEqual(price_for(A, (GREAT,), (GREAT,), GREAT + 1), GREAT)


if __name__ == "__main__":
    unittest.main()
