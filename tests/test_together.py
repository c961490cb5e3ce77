"""[79] to [82]: books put together, and told apart."""

import itertools
import random
import time
import unittest

from asmany.books import Book
from asmany.errors import InvalidNumber, Refused
from asmany.layouts import book_of
from asmany.shows import read_formula
from asmany.stories import first_story
from asmany.texts import read_book, show_book
from asmany.together import joined_by_and, joined_by_or, put_in, so_many, telling_pool
from plain import STRANGE, Case, all_small_books, formula_ways, least, lengths, named, plus, some_books
from plain import some_formulas, stories, strange_numbers, within

ROAD, LAMP = read_book("a, b\nb, c\nc, d"), read_book("l")
GAP = Book(("a", "b"), ((0, 4), (1, 3), (3, 1), (4, 0)))
EIGHT = tuple(("kind", name) for name in "abcdefgh")


def renamed(kinds, ways, chance, letters):
    """A book with other names, in any order."""
    names = chance.sample(letters, len(kinds))
    order = sorted(range(len(kinds)), key=lambda k: names[k])
    return Book(tuple(sorted(names)), tuple(sorted(tuple(way[k] for k in order) for way in ways)))


def part_of(pool, kinds, some):
    """The amounts of some of the kinds."""
    return tuple(pool[kinds.index(kind)] for kind in some)


class Joined(Case):

    def test_examples(self):
        self.assertEqual(show_book(joined_by_or(book=LAMP, other=ROAD)), "l\nc, d\nb, c\na, b")
        self.assertEqual(show_book(joined_by_and(book=LAMP, other=ROAD)), "c, d, l\nb, c, l\na, b, l")
        both = joined_by_and(read_book("b\nd"), read_book("a\n2 c"))
        self.assertEqual(show_book(both), "2 c, d\nb, 2 c\na, d\na, b")

    def test_lengths(self):
        """By "or" all sums, by "and" the ones up to the greatest of the other."""
        chance = random.Random(79)
        books = some_books(790, 60, kinds=3, ways=4, top=2) + all_small_books()[::40]
        uneven = [pair for pair in books if stories(pair[1])]
        some = 0
        for _ in range(120):
            one = renamed(*chance.choice(uneven), chance, "abcxyz")
            free = [letter for letter in "abcdexyz" if letter not in one.kinds]
            other = renamed(*chance.choice(chance.choice((books, uneven))), chance, free)
            known = [{}, {}, {}, {}]
            found = [joined_by_or(one, other), joined_by_and(one, other)]
            kinds = tuple(sorted(one.kinds + other.kinds))
            for book in found:
                self.assertEqual(book.kinds, kinds)
                self.assertEqual(first_story(book) is None, first_story(one) is None and first_story(other) is None)
            for _ in range(3):
                pool = tuple(chance.randint(0, 4) for _ in kinds)
                m = lengths(one.ways, part_of(pool, kinds, one.kinds), known[0])
                n = lengths(other.ways, part_of(pool, kinds, other.kinds), known[1])
                self.assertEqual(lengths(found[0].ways, pool, known[2]), tuple(sorted({x + y for x in m for y in n})))
                right = {x for x in m if x <= n[-1]} | {y for y in n if y <= m[-1]}
                self.assertEqual(lengths(found[1].ways, pool, known[3]), tuple(sorted(right)))
                some += len(right) > 1
        self.assertGreater(some, 15)

    def test_common_kinds(self):
        for call in (joined_by_and, joined_by_or):
            self.fault(Refused, "kinds", call, ROAD, ROAD)
            self.fault(Refused, "kinds", call, ROAD, read_book("d\ne"))
            # Also if there are too many kinds besides.
            self.fault(Refused, "kinds", call, ROAD, read_book("a, e, f, g, h, i"))

    def test_wide(self):
        ten = book_of(read_formula("2 of (a or b or c or d)"))
        twenty = book_of(read_formula("19 of (e or f)"))
        one, hundred = book_of(read_formula("e or f")), book_of(read_formula("13 of (a or b or c)"))
        self.assertEqual([len(book.ways) for book in (ten, twenty, one, hundred)], [10, 20, 2, 105])
        self.assertEqual(len(joined_by_and(ten, twenty).ways), 200)
        self.fault(Refused, "wide", joined_by_and, ten, book_of(read_formula("20 of (e or f)")))
        self.fault(Refused, "wide", joined_by_and, hundred, one)
        self.assertEqual(len(joined_by_or(hundred, one).ways), 107)
        wide = book_of(read_formula("18 of (a or b or c)"))
        self.assertEqual(len(joined_by_or(wide, book_of(read_formula("9 of (e or f)"))).ways), 200)
        self.fault(Refused, "wide", joined_by_or, wide, book_of(read_formula("10 of (e or f)")))
        for call in (joined_by_and, joined_by_or):
            self.assertEqual(len(call(ROAD, read_book("e, f, g, h")).kinds), 8)
            self.fault(Refused, "wide", call, ROAD, read_book("e, f, g, h, i"))


class SoMany(Case):

    def plain(self, ways, number):
        """The least sums of so many ways; None if those of fewer or as many are too many or too great."""
        sums = set(ways)
        for _ in range(number - 1):
            sums = {plus(one, way) for one in sums for way in ways}
            told = least(sums)
            if len(told) > 200 or max(map(max, told)) > 60:
                return None
        return least(sums)

    def test_examples(self):
        self.assertEqual(len(so_many(book=GAP, number=2).ways), 9)
        self.assertEqual(so_many(GAP, 2), book_of(read_formula("8 of (a or b)")))
        self.assertEqual(so_many(GAP, 1), GAP)
        self.assertEqual(so_many(read_book("a"), 60), read_book("60 a"))

    def test_small(self):
        """The greatest length is that of the book, divided and rounded down; of an even book it is even."""
        chance = random.Random(80)
        for kinds, ways in some_books(800, 90, kinds=3, ways=4, top=2) + all_small_books()[::25]:
            book = Book(kinds, ways)
            known = {}
            for number in (1, 2, 3, 4):
                right = self.plain(ways, number)
                found = so_many(book, number)
                used = tuple(k for k in range(len(kinds)) if any(way[k] for way in right))
                self.assertEqual(found.kinds, tuple(kinds[k] for k in used))
                self.assertEqual(found.ways, tuple(sorted(tuple(way[k] for k in used) for way in right)))
                if not stories(ways):
                    self.assertIsNone(first_story(found))
                more = {}
                for _ in range(3):
                    pool = tuple(chance.randint(0, 5) for _ in kinds)
                    greatest = lengths(found.ways, tuple(pool[k] for k in used), more)[-1]
                    self.assertEqual(greatest, lengths(ways, pool, known)[-1] // number)

    def test_kinds_that_no_least_sum_uses(self):
        book = Book(("a", "b", "z"), ((0, 4, 0), (1, 3, 0), (2, 2, 1), (3, 1, 0), (4, 0, 0)))
        self.assertEqual(so_many(book, 2), book_of(read_formula("8 of (a or b)")))
        self.assertEqual(so_many(book, 1), book)

    def test_even_books(self):
        for formula in some_formulas(801, 60, kinds=4, top=4):
            ways = sorted(formula_ways(formula, named(formula)))
            if len(ways) <= 12:
                right = formula_ways(("many", 3, formula), named(formula))
                self.assertEqual(so_many(Book(named(formula), tuple(ways)), 3).ways, tuple(sorted(right)))

    def test_wide(self):
        two, three = book_of(("or", EIGHT[:2])), book_of(("or", EIGHT[:3]))
        self.assertEqual(len(so_many(two, 60).ways), 61)
        self.assertEqual(len(so_many(three, 18).ways), 190)
        self.fault(Refused, "wide", so_many, three, 19)
        self.fault(Refused, "wide", so_many, three, 60)
        self.assertEqual(so_many(read_book("20 a\n30 b"), 2), read_book("40 a\n20 a, 30 b\n60 b"))
        self.fault(Refused, "wide", so_many, read_book("20 a\n30 b"), 3)
        self.fault(Refused, "wide", so_many, read_book("31 a"), 2)
        self.fault(Refused, "wide", so_many, read_book("2 a"), 31)
        self.assertEqual(so_many(read_book("2 a"), 30), read_book("60 a"))

    def test_wide_on_the_way(self):
        """Also sums of fewer ways must not be too many."""
        started = time.monotonic()
        chance = random.Random(802)
        for kinds, ways in some_books(803, 60, kinds=5, ways=12, top=3) + some_books(804, 30, kinds=2, ways=9, top=14):
            number = chance.randint(2, 5)
            right = self.plain(ways, number)
            if right is None:
                self.fault(Refused, "wide", so_many, Book(kinds, ways), number)
            else:
                self.assertEqual(len(so_many(Book(kinds, ways), number).ways), len(right))
        self.assertLess(time.monotonic() - started, 60)

    def test_wrong_numbers(self):
        for number in strange_numbers() + [0, 61]:
            self.fault(InvalidNumber, "number", so_many, GAP, number)
            self.fault(InvalidNumber, "number", so_many, read_book("60 a"), number)


class PutIn(Case):

    def plain(self, book, kind, formula):
        """All ways, as dicts made to sorted pairs."""
        found = set()
        inner = named(formula)
        for way in book.ways:
            table = dict(zip(book.kinds, way))
            amount = table.pop(kind)
            sums = {(0,) * len(inner)} if not amount else formula_ways(
                ("many", amount, formula) if amount > 1 else formula, inner)
            for one in sums:
                found.add(tuple(sorted((*table.items(), *zip(inner, one)))))
        return found

    def test_examples(self):
        found = put_in(book=read_book("2 a, b\na, c"), kind="a", formula=read_formula("d or 2 of e"))
        self.assertEqual(show_book(found), "c, 2 e\nc, d\nb, 4 e\nb, d, 2 e\nb, 2 d")
        self.assertEqual(put_in(ROAD, "a", ("kind", "a")), ROAD)
        self.assertEqual(show_book(put_in(read_book("2 a, b"), "a", read_formula("3 of a"))), "6 a, b")
        self.assertEqual(show_book(put_in(read_book("a, b"), "a", read_formula("a or c"))), "b, c\na, b")

    def test_ways_and_lengths(self):
        """The lengths are those of the book with as much of the kind as there are pieces by the formula."""
        chance = random.Random(81)
        some = 0
        for kinds, ways in some_books(810, 100, kinds=3, ways=3, top=2) + all_small_books()[::40]:
            book = renamed(kinds, ways, chance, "abcdy")
            kind = chance.choice(book.kinds)
            letters = [letter for letter in "acefxyz" if letter == kind or letter not in book.kinds]
            inner = chance.choice(some_formulas(chance.randint(0, 50), 1, kinds=3, top=3))
            names = dict(zip("abc", chance.sample(letters, 3)))
            formula = self.renamed_formula(inner, names)
            found = put_in(book, kind, formula)
            rows = {tuple(zip(found.kinds, way)) for way in found.ways}
            self.assertEqual(rows, self.plain(book, kind, formula))
            self.assertEqual(first_story(found) is None, not stories(book.ways))
            part_ways = sorted(formula_ways(formula, named(formula)))
            known = [{}, {}, {}]
            for _ in range(3):
                pool = dict(zip(found.kinds, [chance.randint(0, 3) for _ in found.kinds]))
                pieces = lengths(part_ways, tuple(pool[name] for name in named(formula)), known[0])[0]
                told = tuple(pieces if name == kind else pool[name] for name in book.kinds)
                right = lengths(book.ways, told, known[1])
                self.assertEqual(lengths(found.ways, tuple(pool.values()), known[2]), right)
                some += len(right) > 1
        self.assertGreater(some, 5)

    def renamed_formula(self, formula, names):
        if formula[0] == "kind":
            return "kind", names[formula[1]]
        if formula[0] == "many":
            return "many", formula[1], self.renamed_formula(formula[2], names)
        return formula[0], tuple(self.renamed_formula(part, names) for part in formula[1])

    def test_wide(self):
        book = read_book("9 a\n9 b")
        self.assertEqual(len(put_in(book, "a", ("or", EIGHT[2:4])).ways), 11)
        self.assertEqual(len(put_in(book, "a", ("or", EIGHT[2:5])).ways), 56)
        self.fault(Refused, "wide", put_in, book, "a", ("or", EIGHT[2:6]))
        self.assertEqual(len(put_in(read_book("18 a"), "a", ("or", EIGHT[:3])).ways), 190)
        self.fault(Refused, "wide", put_in, read_book("19 a"), "a", ("or", EIGHT[:3]))
        self.assertEqual(put_in(read_book("2 a"), "a", ("many", 30, EIGHT[0])), read_book("60 a"))
        self.fault(Refused, "wide", put_in, read_book("2 a"), "a", ("many", 31, EIGHT[0]))
        # The greatest amount and the greatest size count, though they are not those of each way.
        for text in ("31 of d", "d or 31 of e", "31 of d or e"):
            self.fault(Refused, "wide", put_in, read_book("2 a, b\na, c"), "a", read_formula(text))
        self.assertEqual(show_book(put_in(read_book("2 a, b\na, c"), "a", read_formula("30 of d"))), "c, 30 d\nb, 60 d")
        self.fault(Refused, "wide", put_in, read_book("60 a\nz"), "a", ("many", 60, ("or", EIGHT)))
        self.assertEqual(len(put_in(ROAD, "b", ("and", tuple(("kind", name) for name in "efghi"))).kinds), 8)
        self.fault(Refused, "wide", put_in, ROAD, "b", ("and", tuple(("kind", name) for name in "efghij")))

    def test_great_formula(self):
        formula = ("many", 60, ("or", EIGHT))
        self.fault(Refused, "wide", put_in, read_book("a"), "a", formula)
        self.assertEqual(put_in(read_book("a, z"), "a", ("many", 60, ("and", EIGHT[:7]))),
                         read_book("60 a, 60 b, 60 c, 60 d, 60 e, 60 f, 60 g, z"))

    def test_wrong_kinds(self):
        for kind in STRANGE + ("e", "A", "", ("a",), ["a"], "ab"):
            if kind.__class__ is not str or kind not in ROAD.kinds:
                self.fault(Refused, "kind", put_in, ROAD, kind, ("kind", "b"))
        for formula in (("kind", "b"), ("or", (("kind", "a"), ("kind", "d"))), ("and", tuple(("kind", name) for name in "bfghijkl"))):
            self.fault(Refused, "kinds", put_in, ROAD, "a", formula)


class Telling(Case):

    def test_examples(self):
        self.assertIsNone(telling_pool(book=GAP, other=GAP))
        self.assertIsNone(telling_pool(GAP, Book(GAP.kinds, GAP.ways)))
        self.check(GAP, so_many(GAP, 2))
        self.check(GAP, book_of(read_formula("4 of (a or b)")))

    def check(self, one, other):
        pool = telling_pool(one, other)
        self.assertEqual(len(pool), len(one.kinds))
        self.assertTrue(all(0 <= amount <= 10 ** 18 for amount in pool))
        fits = [any(within(way, pool) for way in book.ways) for book in (one, other)]
        self.assertEqual(sorted(fits), [False, True])

    def test_small(self):
        books = [Book(*pair) for pair in all_small_books() if pair[0] == ("a", "b")][::4]
        for one, other in itertools.product(books, repeat=2):
            if one == other:
                self.assertIsNone(telling_pool(one, other))
            else:
                self.check(one, other)

    def test_wide(self):
        wide = book_of(read_formula("18 of (a or b or c)"))
        for at in (0, 90, 189):
            less = Book(wide.kinds, wide.ways[:at] + wide.ways[at + 1:])
            self.check(wide, less)
            self.check(less, wide)

    def test_other_kinds(self):
        self.fault(Refused, "kinds", telling_pool, GAP, ROAD)
        self.fault(Refused, "kinds", telling_pool, read_book("a\nb"), read_book("a\nc"))


if __name__ == "__main__":
    unittest.main()
