"""[56], [57], and what stands before [54]: prices and mixes."""

import itertools
import random
import unittest

from asmany.bars import short_bar
from asmany.books import Book
from asmany.errors import InvalidNumber, InvalidPool, Refused
from asmany.prices import are_prices, is_mix, mix_pool, price_limit, rest_cost, way_costs
from plain import STRANGE, Case, Stubborn, boxes, full_runs, minus, some_books, strange_lots, subsets, within

STAR = Book(("a", "b", "c", "d"), ((0, 0, 1, 1), (0, 1, 0, 1), (1, 0, 0, 1), (1, 1, 1, 0)))
ABC = ("a", "b", "c")
GREAT = 10 ** 18


def cost(amounts, prices):
    return sum(x * y for x, y in zip(amounts, prices))


def bars_of(kinds, ways):
    """All bars, least or not."""
    for lot in subsets(kinds):
        if all(any(way[kinds.index(kind)] for kind in lot) for way in ways):
            yield lot


def small_prices(kinds, ways, bar):
    """All prices of a bar up to 2."""
    for prices in boxes((2,) * len(kinds)):
        if all(kind in bar or price == 0 for kind, price in zip(kinds, prices)):
            if all(cost(way, prices) >= 1 for way in ways):
                yield prices


class Prices(Case):

    def test_examples(self):
        prices = (1, 1, 1, 0)
        self.assertIs(are_prices(book=STAR, bar=ABC, value=prices), True)
        self.assertIs(are_prices(STAR, ("a", "d"), prices), False)
        self.assertEqual(way_costs(book=STAR, prices=prices), (1, 1, 1, 3))
        self.assertEqual(rest_cost(book=STAR, prices=prices), 0)
        self.assertEqual(rest_cost(Book(("a", "b"), ((0, 3), (5, 1))), (2, 7)), 2 * 4 + 7 * 2)
        self.assertEqual(price_limit(book=STAR, prices=prices, pool=(1, 1, 1, 3)), 3)
        self.assertEqual(price_limit(STAR, prices, (GREAT,) * 4), 3 * GREAT)
        great = 10 ** 50
        self.assertEqual(way_costs(STAR, (great, 0, 0, great + 1)), (great + 1, great + 1, 2 * great + 1, great))
        self.assertEqual(price_limit(STAR, (great, 0, 0, great), (GREAT, 0, 0, 5)), GREAT + 5)
        self.assertIs(are_prices(STAR, ("a", "d"), (great, 0, 0, 1)), True)

    def test_all_small(self):
        told = [0, 0]
        for kinds, ways in some_books(560, 40, kinds=3, ways=4, top=3):
            book = Book(kinds, ways)
            greatest = [max(way[k] for way in ways) for k in range(len(kinds))]
            any_prices = set()
            for bar in bars_of(kinds, ways):
                right = set(small_prices(kinds, ways, bar))
                any_prices |= right
                for prices in boxes((2,) * len(kinds)):
                    self.assertIs(are_prices(book, bar, prices), prices in right)
            for prices in boxes((2,) * len(kinds)):
                told[prices in any_prices] += 1
                if prices in any_prices:
                    self.assertEqual(way_costs(book, prices), tuple(cost(way, prices) for way in ways))
                    self.assertEqual(rest_cost(book, prices), cost([most - 1 for most in greatest], prices))
                else:
                    self.fault(InvalidNumber, "prices", way_costs, book, prices)
                    self.fault(InvalidNumber, "prices", rest_cost, book, prices)
                    self.fault(InvalidNumber, "prices", price_limit, book, prices, None)
        self.assertGreater(min(told), 100)

    def test_limits_of_runs(self):
        """What prices say of the lengths of runs, full or not."""
        chance = random.Random(561)
        for kinds, ways in some_books(562, 60, kinds=3, ways=4, top=2):
            book = Book(kinds, ways)
            for _ in range(4):
                pool = tuple(chance.randint(0, 5) for _ in kinds)
                full = full_runs(ways, pool)
                longest = max(map(len, full))
                bar = chance.choice(list(bars_of(kinds, ways)))
                prices = chance.choice(list(small_prices(kinds, ways, bar)))
                costs = way_costs(book, prices)
                self.assertEqual(price_limit(book, prices, pool), cost(pool, prices) // min(costs))
                self.assertLessEqual(longest, price_limit(book, prices, pool))
                for run in full:
                    self.check_run(book, pool, run, prices, longest)

    def check_run(self, book, pool, run, prices, longest):
        costs = way_costs(book, prices)
        rest = pool
        for count, number in enumerate((*run, None)):
            self.assertLessEqual(longest, (count * max(costs) + cost(rest, prices)) // min(costs))
            if number is not None:
                rest = minus(rest, book.ways[number])
        short = short_bar(book, rest)
        for prices in itertools.islice(small_prices(book.kinds, book.ways, short), 5):
            self.assertLessEqual(cost(rest, prices), rest_cost(book, prices))

    def test_wrong_bars(self):
        for call, more in ((are_prices, (None,)), (is_mix, (None,)), (mix_pool, (None,))):
            for lot in strange_lots():
                self.fault(Refused, "lot", call, STAR, lot, *more)
            for lot in ((), ("a",), ("a", "b"), ("d",)):
                self.fault(Refused, "bar", call, STAR, lot, *more)

    def test_wrong_prices(self):
        wrong = STRANGE + ([1, 1, 1, 1], (1, 1, 1), (1, 1, 1, 1, 1), (1, True, 1, 1), (1, 1.0, 1, 1), (1, -1, 1, 1),
                           (1, None, 1, 1), (0, 0, 0, 0), (0, 0, 0, 1), (1, 0, 1, 0), "abcd", {1: 1}, ((1,),) * 4,
                           (Stubborn(),) * 4)
        for value in wrong:
            self.assertIs(are_prices(STAR, ABC, value), False)
            for call in (way_costs, rest_cost):
                self.fault(InvalidNumber, "prices", call, STAR, value)
            self.fault(InvalidNumber, "prices", price_limit, STAR, value, None)

    def test_wrong_pools(self):
        for pool in STRANGE + ((1, 1, 1), [1] * 4):
            self.fault(InvalidPool, -1, price_limit, STAR, (1, 1, 1, 0), pool)
        for item in STRANGE + (GREAT + 1,):
            self.fault(InvalidPool, 1, price_limit, STAR, (1, 1, 1, 0), (0, item, 0, 0))


class Mixes(Case):

    def test_examples(self):
        mix = ((0, 0, 0, 1), (1, 1, 1, 0))
        self.assertIs(is_mix(book=STAR, bar=ABC, value=mix), True)
        self.assertIs(is_mix(STAR, ("a", "d"), mix), False)
        self.assertEqual(mix_pool(book=STAR, bar=ABC, mix=mix), (1, 1, 1, 3))
        self.assertIs(is_mix(STAR, ABC, ((10 ** 40,) * 4, (1, 1, 1, 0))), True)
        self.assertIs(is_mix(STAR, ABC, ((0, 0, 0, 0), (0, 0, 0, 0))), False)

    def test_great(self):
        third = (GREAT // 60, GREAT % 60)
        book = Book(("a", "b"), ((1, 1), (60, 0)))
        mix = ((third[1], third[0]), (1, 0))
        self.assertEqual(mix_pool(book, ("a",), mix), (GREAT, max(third[1], 1)))
        self.fault(Refused, "great", mix_pool, book, ("a",), ((third[1] + 1, third[0]), (1, 0)))
        self.assertEqual(mix_pool(STAR, ABC, ((0, 0, 0, GREAT), (GREAT, 0, 0, 0))), (GREAT, GREAT, GREAT, GREAT))
        self.fault(Refused, "great", mix_pool, STAR, ABC, ((0, 0, 0, GREAT + 1), (1, 0, 0, 0)))
        self.fault(Refused, "great", mix_pool, STAR, ABC, ((0, 0, 0, GREAT), (GREAT, 1, 0, 0)))
        self.assertEqual(mix_pool(STAR, ABC, ((0, 0, 0, GREAT), (GREAT - 1, 1, 0, 0)))[3], GREAT)

    def test_many(self):
        chance = random.Random(570)
        told = [0, 0]
        for kinds, ways in some_books(571, 60, kinds=3, ways=4, top=2):
            book = Book(kinds, ways)
            for bar in bars_of(kinds, ways):
                for _ in range(10):
                    mix = tuple(tuple(chance.randint(0, 2) for _ in ways) for _ in range(2))
                    sums = [tuple(sum(x * way[k] for x, way in zip(counts, ways)) for k in range(len(kinds)))
                            for counts in mix]
                    right = all(map(any, mix)) and all(
                        kind not in bar or y <= x for kind, x, y in zip(kinds, *sums))
                    told[right] += 1
                    self.assertIs(is_mix(book, bar, mix), right)
                    if right:
                        pool = tuple(map(max, *sums))
                        self.assertEqual(mix_pool(book, bar, mix), pool)
                        # The slow ways are a full run.
                        self.assertFalse(any(within(way, minus(pool, sums[0])) for way in ways))
                    else:
                        self.fault(InvalidNumber, "mix", mix_pool, book, bar, mix)
        self.assertGreater(min(told), 100)

    def test_wrong_mixes(self):
        slow, fast = (0, 0, 0, 1), (1, 1, 1, 0)
        wrong = STRANGE + ((slow,), (slow, fast, fast), [slow, fast], (list(slow), fast), (slow, list(fast)),
                           (slow, fast[:3]), (slow + (0,), fast), (slow, (0,) * 4), ((0,) * 4, fast), ((1, 1, 0, 0), slow),
                           (slow, (1, True, 1, 0)), (slow, (1, 1.0, 1, 0)), (slow, (1, -1, 1, 0)), {slow: fast},
                           ((0, 0, 0, None), fast), (slow, None), (slow, (2, 0, 0, 0)), (Stubborn(), fast))
        for value in wrong:
            self.assertIs(is_mix(STAR, ABC, value), False)
            self.fault(InvalidNumber, "mix", mix_pool, STAR, ABC, value)


if __name__ == "__main__":
    unittest.main()
