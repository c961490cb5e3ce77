"""[58], [59]: haste, and what stands before [54] on these functions."""

import itertools
import random
import unittest
from fractions import Fraction

from asmany.bars import bars
from asmany.books import Book
from asmany.errors import InvalidNumber, PoolError, Refused
from asmany.haste import bar_haste, best_mix, best_prices, haste, is_best, longest_bound, price_table, sure_length
from asmany.parts import lacking, plenty
from asmany.prices import mix_pool
from asmany.rows import run_lengths, span
from plain import STRANGE, Case, Stubborn, all_small_books, boxes, full_runs, plus, some_books, some_formulas
from plain import formula_ways, lengths, named, strange_lots, strange_numbers, subsets, within, wide_book

STAR = Book(("a", "b", "c", "d"), ((0, 0, 1, 1), (0, 1, 0, 1), (1, 0, 0, 1), (1, 1, 1, 0)))
THREE = Book(("a", "b"), ((0, 3), (2, 1), (3, 0)))
ABC = ("a", "b", "c")
MIX = ((0, 0, 0, 1), (1, 1, 1, 0))
GREAT = 10 ** 18


def cost(amounts, prices):
    return sum(x * y for x, y in zip(amounts, prices))


def all_bars(kinds, ways):
    """All bars, least or not."""
    return [lot for lot in subsets(kinds) if all(any(way[kinds.index(kind)] for kind in lot) for way in ways)]


def least_quotient(kinds, ways, bar, top):
    """The least dear / cheap by all prices of a bar up to `top`."""
    found = []
    for prices in boxes([top if kind in bar else 0 for kind in kinds]):
        costs = [cost(way, prices) for way in ways]
        if min(costs) > 0:
            found.append(Fraction(max(costs), min(costs)))
    return min(found)


def greatest_quotient(kinds, ways, bar, top):
    """The greatest quotient of fast and slow ways of the mixes with numbers up to `top`."""
    inside = [k for k, kind in enumerate(kinds) if kind in bar]
    rows = [(sum(counts), [sum(x * way[k] for x, way in zip(counts, ways)) for k in inside])
            for counts in boxes((top,) * len(ways)) if any(counts)]
    return max(Fraction(fast[0], slow[0]) for slow in rows for fast in rows if within(fast[1], slow[1]))


class OfABar(Case):

    def test_examples(self):
        self.assertIs(is_best(STAR, ABC, (1, 1, 1, 0), MIX), True)
        self.assertIs(is_best(book=STAR, bar=ABC, prices=(2, 2, 2, 0), mix=((0, 0, 0, 3), (3, 3, 3, 0))), True)
        self.assertIs(is_best(STAR, ABC, (1, 1, 2, 0), MIX), False)
        self.assertIs(is_best(STAR, ABC, (1, 1, 1, 0), ((0, 0, 0, 1), (2, 0, 0, 0))), False)
        self.assertEqual(bar_haste(book=STAR, bar=ABC), (3, 1))
        self.assertEqual(bar_haste(STAR, ("a", "d")), (2, 1))
        self.assertEqual(bar_haste(Book(("a",), ((60,),)), ("a",)), (1, 1))
        self.assertEqual(bar_haste(Book(("a", "b"), ((0, 60), (1, 7))), ("b",)), (60, 7))
        prices, mix = best_prices(book=STAR, bar=ABC), best_mix(book=STAR, bar=ABC)
        self.assertIs(is_best(STAR, ABC, prices, mix), True)
        great = 10 ** 50
        self.assertIs(is_best(STAR, ABC, (great, great, great, 0), MIX), True)

    def check(self, kinds, ways, bar):
        book = Book(kinds, ways)
        found = bar_haste(book, bar)
        value = Fraction(*found)
        self.assertEqual((value.numerator, value.denominator), found)
        prices, mix = best_prices(book, bar), best_mix(book, bar)
        costs = [cost(way, prices) for way in ways]
        self.assertTrue(all(kind in bar or price == 0 for kind, price in zip(kinds, prices)))
        self.assertGreater(min(costs), 0)
        self.assertEqual(Fraction(max(costs), min(costs)), value)
        sums = [[sum(x * way[k] for x, way in zip(counts, ways)) for k in range(len(kinds))] for counts in mix]
        self.assertTrue(all(y <= x for kind, x, y in zip(kinds, *sums) if kind in bar))
        self.assertEqual(Fraction(sum(mix[1]), sum(mix[0])), value)
        self.assertIs(is_best(book, bar, prices, mix), True)
        for counts, wanted in zip(mix, (max(costs), min(costs))):
            self.assertEqual({one for one, count in zip(costs, counts) if count}, {wanted})
        return value, prices, mix

    def test_small(self):
        """The least quotient of prices is the greatest one of mixes."""
        for kinds, ways in some_books(580, 25, kinds=3, ways=3, top=2) + all_small_books()[::25]:
            for bar in all_bars(kinds, ways):
                value, prices, mix = self.check(kinds, ways, bar)
                top = max(4, *prices) if len(kinds) < 3 else 4
                self.assertLessEqual(value, least_quotient(kinds, ways, bar, min(top, 8)))
                if max(prices) <= min(top, 8):
                    self.assertEqual(value, least_quotient(kinds, ways, bar, min(top, 8)))
                if len(ways) < 4:
                    self.assertGreaterEqual(value, greatest_quotient(kinds, ways, bar, 3))

    def test_many(self):
        """A bar that has all kinds of another one has no greater haste."""
        for kinds, ways in some_books(581, 150, kinds=5, ways=8, top=4):
            known = {bar: self.check(kinds, ways, bar)[0] for bar in all_bars(kinds, ways)}
            for bar, other in itertools.permutations(known, 2):
                if set(bar) <= set(other):
                    self.assertLessEqual(known[other], known[bar])

    def test_which_are_best(self):
        chance = random.Random(58)
        told = [0, 0]
        for kinds, ways in some_books(582, 80, kinds=3, ways=4, top=2):
            book = Book(kinds, ways)
            for bar in all_bars(kinds, ways):
                value, best, mix = self.check(kinds, ways, bar)
                for _ in range(8):
                    prices = chance.choice((best, tuple(chance.randint(0, 2) for _ in kinds)))
                    counts = chance.choice((mix, tuple(tuple(chance.randint(0, 2) for _ in ways) for _ in range(2))))
                    right = self.reached(kinds, ways, bar, prices, counts, value)
                    told[right] += 1
                    self.assertIs(is_best(book, bar, prices, counts), right)
        self.assertGreater(min(told), 100)

    def reached(self, kinds, ways, bar, prices, mix, value):
        """Whether both are of the bar, and reach its haste."""
        costs = [cost(way, prices) for way in ways]
        if min(costs) == 0 or any(price and kind not in bar for kind, price in zip(kinds, prices)):
            return False
        sums = [[sum(x * way[k] for x, way in zip(counts, ways)) for k in range(len(kinds))] for counts in mix]
        if not all(map(any, mix)) or any(y > x for kind, x, y in zip(kinds, *sums) if kind in bar):
            return False
        return Fraction(max(costs), min(costs)) == Fraction(sum(mix[1]), sum(mix[0])) == value

    def test_no_run_is_longer_than_the_fast_one(self):
        for kinds, ways in some_books(583, 60, kinds=3, ways=4, top=2):
            book = Book(kinds, ways)
            for bar in bars(book):
                mix = best_mix(book, bar)
                if sum(mix[1]) < 9:
                    self.assertEqual(run_lengths(book, mix_pool(book, bar, mix), most=100000)[-1], sum(mix[1]))

    def test_wrong_bars(self):
        calls = ((bar_haste, ()), (best_prices, ()), (best_mix, ()), (is_best, (None, None)))
        for call, more in calls:
            for lot in strange_lots():
                self.fault(Refused, "lot", call, STAR, lot, *more)
            for lot in ((), ("a",), ("a", "b"), ("d",)):
                self.fault(Refused, "bar", call, STAR, lot, *more)

    def test_wrong_values(self):
        for value in STRANGE + ((1, 1, 1), [1, 1, 1, 0], (1, 1, 1, 1), (0, 1, 1, 0), (1, True, 1, 0), (Stubborn(),) * 4):
            self.assertIs(is_best(STAR, ABC, value, MIX), False)
            self.assertIs(is_best(STAR, ABC, value, value), False)
        for value in STRANGE + (list(MIX), MIX[:1], MIX + MIX, (MIX[0], (0,) * 4), (MIX[0], (1, 1, True, 0)),
                                (Stubborn(), Stubborn())):
            self.assertIs(is_best(STAR, ABC, (1, 1, 1, 0), value), False)


class OfABook(Case):

    def test_examples(self):
        self.assertEqual(haste(book=STAR), (3, 1))
        self.assertEqual(haste(THREE), (1, 1))
        table = price_table(book=STAR)
        self.assertEqual(sorted(table), [ABC, ("a", "d"), ("b", "d"), ("c", "d")])
        for bar, prices in table.items():
            self.assertIs(is_best(STAR, bar, prices, best_mix(STAR, bar)), True)
        told = {ABC: (1, 1, 1, 0), ("a", "d"): (1, 0, 0, 1), ("b", "d"): (0, 1, 0, 1), ("c", "d"): (0, 0, 1, 1)}
        self.assertEqual([longest_bound(STAR, told, length) for length in (0, 1, 2, GREAT)], [0, 3, 6, 3 * GREAT])
        self.assertEqual([sure_length(STAR, told, length) for length in (0, 1, 2, 3, 4, GREAT)],
                         [0, 1, 1, 1, 2, -(-GREAT // 3)])
        self.assertEqual(longest_bound(book=THREE, table={("a", "b"): (1, 1)}, length=7), 7 + 1)
        self.assertEqual(sure_length(book=THREE, table={("a", "b"): (1, 1)}, length=7), 6)
        self.assertEqual(sure_length(THREE, {("a", "b"): (10 ** 40, 10 ** 40)}, 1), 0)

    def test_even_books(self):
        for formula in some_formulas(590, 100, kinds=4, top=4):
            kinds = named(formula)
            ways = tuple(sorted(formula_ways(formula, kinds)))
            if len(ways) <= 60:
                self.assertEqual(haste(Book(kinds, ways)), (1, 1))

    def test_bounds(self):
        """The longest full run has at most the haste times the ways of the shortest one, and some more."""
        chance = random.Random(59)
        for kinds, ways in some_books(591, 80, kinds=4, ways=5, top=2):
            book = Book(kinds, ways)
            best = price_table(book)
            tables = [best, {bar: tuple(chance.randint(1, 4) if kind in bar else 0 for kind in kinds) for bar in best}]
            known = {}
            greatest = [max(way[k] for way in ways) for k in range(len(kinds))]
            for _ in range(6):
                pool = tuple(chance.randint(0, 6) for _ in kinds)
                found = lengths(ways, pool, known)
                for table in tables:
                    self.assertLessEqual(found[-1], longest_bound(book, table, found[0]))
                    for length in range(found[-1] + 1):
                        self.assertGreaterEqual(found[0], sure_length(book, table, length))
                        self.check_numbers(book, table, length, greatest)
                factor = Fraction(*haste(book))
                more = max(Fraction(cost([most - 1 for most in greatest], prices), min(cost(way, prices) for way in ways))
                           for prices in best.values())
                self.assertLessEqual(found[-1], factor * found[0] + more)

    def check_numbers(self, book, table, length, greatest):
        bounds, sure = [], []
        for prices in table.values():
            costs = [cost(way, prices) for way in book.ways]
            rest = cost([most - 1 for most in greatest], prices)
            bounds.append((length * max(costs) + rest) // min(costs))
            sure.append(max(-(-(length * min(costs) - rest) // max(costs)), 0))
        self.assertEqual(longest_bound(book, table, length), max(bounds))
        self.assertEqual(sure_length(book, table, length), min(sure))

    def test_no_lesser_factor(self):
        """However often a best mix is taken, its pool has full runs of the lengths of both parts."""
        some = 0
        for kinds, ways in some_books(592, 120, kinds=3, ways=4, top=2):
            book = Book(kinds, ways)
            factor = haste(book)
            bar = max(bars(book), key=lambda one: Fraction(*bar_haste(book, one)))
            for times in (1, 2, 3):
                mix = tuple(tuple(times * count for count in counts) for counts in best_mix(book, bar))
                pool = mix_pool(book, bar, mix)
                if factor[0] > factor[1] and sum(pool) <= 40:
                    found = lengths(ways, pool)
                    self.assertIn(sum(mix[0]), found)
                    self.assertGreaterEqual(found[-1], sum(mix[1]))
                    self.assertEqual(Fraction(sum(mix[1]), sum(mix[0])), Fraction(*factor))
                    some += 1
        self.assertGreater(some, 30)

    def test_spans_and_parts(self):
        for kinds, ways in some_books(593, 120, kinds=4, ways=5, top=3):
            book = Book(kinds, ways)
            value = Fraction(*haste(book))
            self.assertGreaterEqual(value, 1)
            self.assertLessEqual(value, span(book))
            for call in (lacking, plenty):
                for lot in subsets(kinds):
                    try:
                        part = call(book, lot)
                    except PoolError:
                        continue
                    self.assertLessEqual(Fraction(*haste(part)), value)

    def test_two_books(self):
        chance = random.Random(594)
        books = some_books(595, 60, kinds=2, ways=3, top=3)
        for _ in range(60):
            (kinds, ways), (other, more) = chance.sample(books, 2)
            names = kinds + tuple(kind.upper().lower() + "z" for kind in other)
            order = [sorted(names).index(name) for name in names]
            rows = {"and": [one + two for one in ways for two in more],
                    "or": [one + (0,) * len(other) for one in ways] + [(0,) * len(kinds) + two for two in more]}
            wanted = max(Fraction(*haste(Book(kinds, ways))), Fraction(*haste(Book(other, more))))
            for found in rows.values():
                sorted_rows = []
                for row in found:
                    line = [0] * len(names)
                    for at, amount in zip(order, row):
                        line[at] = amount
                    sorted_rows.append(tuple(line))
                book = Book(tuple(sorted(names)), tuple(sorted(sorted_rows)))
                self.assertEqual(Fraction(*haste(book)), wanted)

    def test_wide(self):
        book = Book(*wide_book(596))
        table = price_table(book)
        values = []
        for bar in bars(book):
            mix = best_mix(book, bar)
            self.assertIs(is_best(book, bar, table[bar], mix), True)
            values.append(Fraction(sum(mix[1]), sum(mix[0])))
        self.assertEqual(haste(book), (max(values).numerator, max(values).denominator))
        self.assertGreaterEqual(longest_bound(book, table, 10), 10)

    def test_wrong_tables(self):
        right = {ABC: (1, 1, 1, 0), ("a", "d"): (1, 0, 0, 1), ("b", "d"): (0, 1, 0, 1), ("c", "d"): (0, 0, 1, 1)}
        less = {bar: right[bar] for bar in list(right)[1:]}
        wrong = list(STRANGE) + [less, {**right, ("a", "b", "d"): (1, 1, 0, 1)}, {**less, ("b", "a", "c"): (1, 1, 1, 0)},
                                 {**right, None: 1}, list(right.items()), {**less, "abc": (1, 1, 1, 0)},
                                 {**less, Stubborn(): (1, 1, 1, 0)}]
        for prices in STRANGE + ((1, 1, 1), (1, 1, 1, 1), [1, 1, 1, 0], (1, 1, 0, 0), (1, 1, True, 0), (1, 1, 1.0, 0)):
            wrong.append({**right, ABC: prices})
        wrong.append({**right, ("a", "d"): (1, 1, 1, 0)})
        for table in wrong:
            self.fault(Refused, "table", longest_bound, STAR, table, None)
            self.fault(Refused, "table", sure_length, STAR, table, None)
        for length in strange_numbers() + [GREAT + 1]:
            self.fault(InvalidNumber, "length", longest_bound, STAR, right, length)
            self.fault(InvalidNumber, "length", sure_length, STAR, right, length)

    def test_full_runs_of_the_star(self):
        found = [len(run) for run in full_runs(STAR.ways, (1, 1, 1, 3))]
        self.assertEqual((min(found), max(found)), (1, 3))
        self.assertEqual(plus((1, 1, 1, 0), (0, 0, 0, 3)), mix_pool(STAR, ABC, MIX))


if __name__ == "__main__":
    unittest.main()
