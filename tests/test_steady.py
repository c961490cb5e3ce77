"""[60], and what stands before [54]: steady books."""

import random
import unittest
from fractions import Fraction
from math import ceil, gcd

from asmany.bars import bars
from asmany.books import Book
from asmany.errors import InvalidPool, Refused
from asmany.haste import bar_haste, best_mix, haste
from asmany.layouts import book_of
from asmany.prices import mix_pool
from asmany.steady import is_steady, steady_bounds, steady_prices
from plain import Case, all_small_books, boxes, formula_ways, lengths, minus, named, some_books, some_formulas
from plain import least_lots, strange_but, strange_lots, strange_numbers, subsets, wide_book

STAR = Book(("a", "b", "c", "d"), ((0, 0, 1, 1), (0, 1, 0, 1), (1, 0, 0, 1), (1, 1, 1, 0)))
THREE = Book(("a", "b"), ((0, 3), (2, 1), (3, 0)))
GREAT = 10 ** 18


def cost(amounts, prices):
    return sum(x * y for x, y in zip(amounts, prices))


def plain_bars(kinds, ways):
    """All least bars by the definition."""
    return least_lots([lot for lot in subsets(kinds)
                       if all(any(way[kinds.index(kind)] for kind in lot) for way in ways)])


def some_pairs(seed):
    """Kinds and ways of books, steady ones among them."""
    found = all_small_books()[::4] + some_books(seed, 150, kinds=4, ways=5, top=3)
    for formula in some_formulas(seed + 1, 120, kinds=4, top=6):
        kinds = named(formula)
        ways = tuple(sorted(formula_ways(formula, kinds)))
        # Without some of its ways a book of a formula often is steady, but not even.
        for rows in (ways, ways[1:], ways[:1] + ways[2:], ways[:2] + ways[3:], ways[::2], ways[::3], ways[:1] + ways[-1:]):
            rows = tuple(sorted(set(rows)))
            if rows and len(rows) <= 8 and all(any(way[k] for way in rows) for k in range(len(kinds))):
                found.append((kinds, rows))
    return found


class Steady(Case):

    def test_examples(self):
        self.assertIs(is_steady(book=THREE), True)
        self.assertIs(is_steady(STAR), False)
        self.assertEqual(steady_prices(book=THREE, bar=("a", "b")), (1, 1))
        self.assertEqual(steady_bounds(book=THREE, pool=(3, 3)), (1, 2))
        self.assertEqual(lengths(THREE.ways, (3, 3)), (1, 2))
        self.assertIsNone(steady_prices(STAR, ("a", "b", "c")))
        self.assertEqual(steady_prices(Book(("a", "b", "c"), ((0, 3, 7), (2, 0, 1))), ("a", "b")), (3, 2, 0))
        self.assertEqual(steady_prices(Book(("a",), ((60,),)), ("a",)), (1,))

    def test_which_are_steady(self):
        told = [0, 0]
        for kinds, ways in some_pairs(600):
            book = Book(kinds, ways)
            value = haste(book) == (1, 1)
            self.assertIs(is_steady(book), value)
            told[value] += 1
        self.assertGreater(min(told), 60)

    def test_prices(self):
        """The only prices of the bar without a common divisor by which all ways cost the same."""
        found = [0, 0]
        for kinds, ways in all_small_books()[::3] + some_books(601, 60, kinds=3, ways=4, top=3):
            book = Book(kinds, ways)
            for bar in plain_bars(kinds, ways):
                right = []
                for prices in boxes([9 if kind in bar else 0 for kind in kinds]):
                    if any(prices) and len({cost(way, prices) for way in ways}) == 1 and gcd(*prices) == 1:
                        right.append(prices)
                prices = steady_prices(book, bar)
                self.assertEqual([] if prices is None else [prices], right)
                found[prices is None] += 1
                self.assertIs(prices is not None, bar_haste(book, bar) == (1, 1))
                if prices:
                    self.assertTrue(all((price > 0) == (kind in bar) for kind, price in zip(kinds, prices)))
        self.assertGreater(min(found), 40)

    def test_bounds(self):
        chance = random.Random(60)
        some = 0
        for kinds, ways in some_pairs(602):
            book = Book(kinds, ways)
            if not is_steady(book):
                self.fault(Refused, "unsteady", steady_bounds, book, (1,) * len(kinds))
                continue
            known = {}
            rest = [max(way[k] for way in ways) - 1 for k in range(len(kinds))]
            for _ in range(16):
                pool = tuple(chance.randint(0, 9) for _ in kinds)
                low, high = steady_bounds(book, pool)
                rows = [steady_prices(book, bar) for bar in plain_bars(kinds, ways)]
                self.assertEqual(high, min(cost(pool, row) // cost(ways[0], row) for row in rows))
                self.assertEqual(low, max(0, min(
                    ceil(Fraction(cost(pool, row) - cost(rest, row), cost(ways[0], row))) for row in rows)))
                found = lengths(ways, pool, known)
                self.assertLessEqual(low, found[0])
                self.assertLessEqual(found[-1], high)
                some += len(found) > 1
        self.assertGreater(some, 40)

    def test_differences(self):
        """By a steady book the lengths differ by at most one number; by another one by any."""
        some = 0
        for kinds, ways in some_pairs(603)[::3]:
            book = Book(kinds, ways)
            if is_steady(book):
                rest = [max(way[k] for way in ways) - 1 for k in range(len(kinds))]
                most = max(ceil(Fraction(cost(rest, prices), cost(ways[0], prices)))
                           for prices in [steady_prices(book, bar) for bar in bars(book)])
                for pool in ((1,) * len(kinds), (7, 2, 3, 4, 5)[:len(kinds)], (10 ** 6,) * len(kinds), (GREAT,) * len(kinds)):
                    low, high = steady_bounds(book, pool)
                    self.assertLessEqual(high - low, most)
                continue
            bar = max(bars(book), key=lambda one: Fraction(*bar_haste(book, one)))
            for times in (1, 2, 3):
                mix = tuple(tuple(times * count for count in counts) for counts in best_mix(book, bar))
                pool = mix_pool(book, bar, mix)
                if sum(pool) <= 40:
                    found = lengths(ways, pool)
                    self.assertGreaterEqual(found[-1] - found[0], times)
                    some += times == 3
        self.assertGreater(some, 10)

    def test_even_books(self):
        for formula in some_formulas(604, 120, kinds=5, top=6):
            kinds = named(formula)
            ways = tuple(sorted(formula_ways(formula, kinds)))
            if len(ways) <= 60:
                book = Book(kinds, ways)
                self.assertIs(is_steady(book), True)
                low, high = steady_bounds(book, (5,) * len(kinds))
                self.assertTrue(low <= lengths(ways, (5,) * len(kinds))[0] <= high)

    def test_wide(self):
        eight = tuple(("kind", name) for name in "abcdefgh")
        wide = book_of(("and", (("or", eight[:3]), ("or", eight[3:6]), ("many", 5, ("or", eight[6:])))))
        wider = book_of(("many", 18, ("or", eight[:3])))
        self.assertEqual((len(wide.ways), len(wider.ways)), (54, 190))
        pool = (GREAT,) * 8
        for book, number in ((wide, 2 * GREAT // 5), (wider, 3 * GREAT // 18)):
            low, high = steady_bounds(book, pool[:len(book.kinds)])
            self.assertTrue(low <= number <= high)
            self.assertIs(is_steady(book), True)
        uneven = Book(wider.kinds, wider.ways[:90] + wider.ways[91:])
        self.assertIs(is_steady(uneven), True)
        book = Book(*wide_book(605))
        self.assertIs(is_steady(book), False)
        self.fault(Refused, "unsteady", steady_bounds, book, pool)

    def test_small_pools(self):
        self.assertEqual(steady_bounds(THREE, (0, 0)), (0, 0))
        self.assertEqual(steady_bounds(THREE, (2, 2)), (0, 1))
        self.assertEqual(minus((3, 3), (3, 0)), (0, 3))
        self.assertEqual(steady_bounds(Book(("a", "b"), ((0, 2), (3, 0))), (5, 5)), (3, 4))

    def test_wrong_lots(self):
        for lot in strange_lots():
            self.fault(Refused, "lot", steady_prices, STAR, lot)
        for lot in ((), ("a",), ("a", "b"), ("d",)):
            self.fault(Refused, "bar", steady_prices, STAR, lot)
        for lot in (("a", "b", "c", "d"), ("a", "b", "d"), ("a", "c", "d")):
            self.fault(Refused, "least", steady_prices, STAR, lot)
        self.fault(Refused, "least", steady_prices, Book(("a", "b"), ((1, 1),)), ("a", "b"))

    def test_wrong_pools(self):
        for pool in strange_but(2):
            self.fault(InvalidPool, -1, steady_bounds, THREE, pool)
        for item in strange_numbers() + [GREAT + 1]:
            self.fault(InvalidPool, 0, steady_bounds, THREE, (item, item))
            # Before it is seen that the book is not steady.
            self.fault(InvalidPool, 3, steady_bounds, STAR, (1, 1, 1, item))
        self.fault(Refused, "unsteady", steady_bounds, STAR, (0, 0, 0, 0))


if __name__ == "__main__":
    unittest.main()
