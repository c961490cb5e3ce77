"""[78]: ways added."""

import itertools
import random
import unittest

from asmany.books import Book
from asmany.errors import Refused
from asmany.filling import fewest_filling, fillings, forced_ways, is_filling
from asmany.formulas import check_formula, normal
from asmany.layouts import book_of, share
from asmany.shows import read_formula
from asmany.texts import read_book
from plain import STRANGE, Case, Stubborn, all_normal_formulas, all_small_books, formula_ways, minus, named, nested
from plain import plus, some_books, some_formulas, stories, within

TWO = read_book("2 b, x\nb, c, d")
EIGHT = tuple(("kind", name) for name in "abcdefgh")


def sizes(formula, times=1):
    """The greatest product of numbers around a kind."""
    if formula[0] == "kind":
        return times
    if formula[0] == "many":
        return sizes(formula[2], times * formula[1])
    return max(sizes(part, times) for part in formula[1])


def plain_forced(ways, most=60):
    """All forced ways by the definition, `None` if one is within another one, "wide" if there are too many."""
    found = set(ways)
    while True:
        more = set()
        for t, u in itertools.combinations_with_replacement(sorted(found), 2):
            both = plus(t, u)
            more |= {minus(both, s) for s in found if within(s, both)}
        if any(within(one, other) for one, other in itertools.permutations(found | more, 2)):
            return None
        if more <= found:
            return tuple(sorted(found))
        found |= more
        if len(found) > most:
            return "wide"


class Fillings(Case):

    def setUp(self):
        self.tables = {}

    def formulas(self, kinds, room):
        """All normal formulas whose numbers multiply to at most `room`, with their ways."""
        if (kinds, room) not in self.tables:
            found = all_normal_formulas("".join(kinds), room)
            self.tables[(kinds, room)] = [(formula, formula_ways(formula, kinds)) for formula in found]
        return self.tables[(kinds, room)]

    def check(self, book):
        """Check what holds for all fillings, and return them."""
        found = fillings(book)
        self.assertIs(found.__class__, tuple)
        self.assertEqual(list(found), sorted(found))
        self.assertEqual(len(set(found)), len(found))
        for formula in found:
            self.assertIsNone(check_formula(formula))
            self.assertEqual(normal(formula), formula)
            self.assertEqual(named(formula), book.kinds)
            self.assertEqual([share(formula, way) for way in book.ways], [1] * len(book.ways))
        return found

    def test_examples(self):
        found = self.check(TWO)
        six = [formula for formula in found if len(formula_ways(formula, named(formula))) == 6]
        self.assertGreater(len(six), 1)
        self.assertEqual(min(len(formula_ways(formula, named(formula))) for formula in found), 6)
        self.assertEqual(fewest_filling(book=TWO), min(six))
        # A least filling need not exist: two of them have no other way in common.
        common = [formula_ways(one, TWO.kinds) & formula_ways(other, TWO.kinds) for one, other in itertools.combinations(six, 2)]
        self.assertIn(set(TWO.ways), common)
        self.assertEqual(fillings(book=read_book("60 a")), (read_formula("60 of a"),))
        self.assertEqual(fillings(read_book("a\n2 b")), (read_formula("a or 2 of b"),))
        self.assertEqual(fillings(read_book("a, b")), (read_formula("a and b"), read_formula("2 of (a or b)")))

    def test_one_and_two_kinds(self):
        """All normal formulas with the kinds that have all ways, by trying all of them."""
        for kinds, ways in all_small_books():
            if kinds in (("a",), ("a", "b")):
                book = Book(kinds, ways)
                found = self.check(book)
                right = [formula for formula, rows in self.formulas(kinds, 12) if rows >= set(ways)]
                self.assertEqual([formula for formula in found if sizes(formula) <= 12], sorted(right))
                self.check_fewest(book, found)

    def check_fewest(self, book, found):
        rows = [(len(formula_ways(formula, book.kinds)), formula) for formula in found if sizes(formula) <= 12]
        if len(rows) == len(found):
            self.assertEqual(fewest_filling(book), min(rows)[1] if rows else None)

    def test_three_kinds(self):
        chance = random.Random(78)
        kinds = ("a", "b", "c")
        some = 0
        parts = [tuple(sorted(chance.sample(sorted(rows), min(len(rows), chance.randint(1, 4)))))
                 for _, rows in chance.sample(self.formulas(kinds, 4), 100)]
        for names, ways in some_books(780, 150, kinds=3, ways=5, top=4) + [(kinds, ways) for ways in parts]:
            if names == kinds and all(any(way[k] for way in ways) for k in range(3)):
                found = self.check(Book(names, ways))
                right = [formula for formula, rows in self.formulas(kinds, 4) if rows >= set(ways)]
                self.assertEqual([formula for formula in found if sizes(formula) <= 4], sorted(right))
                some += len(right)
        self.assertGreater(some, 150)

    def test_great_products(self):
        """Fillings have products up to 60, not only up to the amounts."""
        book = Book(("a", "b", "c"), ((4, 4, 4),))
        found = self.check(book)
        self.assertIn(read_formula("5 of (8 of (a or b) or c)"), found)
        right = [formula for formula, rows in self.formulas(("a", "b", "c"), 4) if (4, 4, 4) in rows]
        self.assertEqual([formula for formula in found if sizes(formula) <= 4], sorted(right))
        kinds = ("a", "b")
        for ways in (((12, 12),), ((6, 10),), ((0, 60), (1, 59)), ((30, 0), (0, 2)), ((60, 60),), ((10, 2), (4, 4))):
            ways = tuple(sorted(ways))
            right = [formula for formula in all_normal_formulas("ab", 60)
                     if all(share(formula, way) == 1 for way in ways)]
            self.assertEqual(list(self.check(Book(kinds, ways))), sorted(right))

    def test_four_kinds(self):
        """Books of 4 kinds with amounts up to 2 are never refused."""
        chance = random.Random(781)
        tables = [(formula, formula_ways(formula, tuple("abcd"))) for formula in all_normal_formulas("abcd", 2)]
        some = 0
        rows = [(2, 2, 2, 2), (1, 1, 1, 1), (1, 2, 1, 2), (2, 1, 1, 1)]
        parts = [tuple(sorted(chance.sample(sorted(rows), min(len(rows), chance.randint(1, 4)))))
                 for _, rows in chance.sample(tables, 40)]
        books = some_books(782, 60, kinds=4, ways=6, top=2) + [(tuple("abcd"), ways) for ways in parts + [(row,) for row in rows]]
        for names, ways in books:
            if len(names) == 4 and all(any(way[k] for way in ways) for k in range(4)):
                found = self.check(Book(names, ways))
                right = [formula for formula, rows in tables if rows >= set(ways)]
                self.assertEqual([formula for formula in found if sizes(formula) <= 2], sorted(right))
                self.check_fewest(Book(names, ways), found)
                some += len(right)
        self.assertGreater(some, 100)

    def test_even_books(self):
        for formula in some_formulas(783, 80, kinds=5, top=4):
            ways = sorted(formula_ways(formula, named(formula)))
            if len(ways) <= 30:
                book = Book(named(formula), tuple(ways))
                try:
                    found = self.check(book)
                except Refused as error:
                    self.assertEqual(error.word, "wide")
                    self.assertGreater(len(book.kinds), 3)
                    continue
                self.assertIn(normal(formula), found)
                self.assertEqual(len(formula_ways(fewest_filling(book), book.kinds)), len(ways))

    def test_none(self):
        for text in ("a\nb, c\nc, d\nd, b, e", "a, b\n2 a, c\n2 b, c", "a, b, c\n2 a\n2 b\n2 c", "a, b\n3 a"):
            self.assertEqual(fillings(read_book(text)), ())
            self.assertIsNone(fewest_filling(read_book(text)))

    def test_wide(self):
        lone = Book(tuple("abcdefgh"), ((1,) * 8,))
        for call in (fillings, fewest_filling):
            self.fault(Refused, "wide", call, lone)
        wide = book_of(read_formula("18 of (a or b or c)"))
        self.assertEqual(fillings(wide), (read_formula("18 of (a or b or c)"),))
        self.assertEqual(fewest_filling(wide), read_formula("18 of (a or b or c)"))
        self.assertEqual(forced_ways(wide), wide.ways)

    def test_which_are_fillings(self):
        for formula in all_normal_formulas("ab", 4) + some_formulas(784, 100, kinds=3, top=4):
            for kinds, ways in (("ab", ((1, 1),)), ("ab", ((0, 2), (1, 1))), ("abc", ((1, 1, 0), (0, 1, 1))), ("abc", ((2, 2, 2),))):
                ways = tuple(sorted(ways))
                right = named(formula) == tuple(kinds) and formula_ways(formula, tuple(kinds)) >= set(ways)
                self.assertIs(is_filling(Book(tuple(kinds), ways), formula), right)
        self.assertIs(is_filling(book=TWO, value=read_formula("3 of (d or (b and 2 of (x or c)))")), False)
        lone = Book(tuple("abcdefgh"), ((1,) * 8,))
        self.assertIs(is_filling(lone, ("and", EIGHT)), True)
        self.assertIs(is_filling(lone, ("many", 8, ("or", EIGHT))), True)
        self.assertIs(is_filling(lone, ("many", 60, ("or", EIGHT))), False)
        self.assertIs(is_filling(lone, ("and", EIGHT[:7])), False)
        # Not normal.
        self.assertIs(is_filling(lone, ("and", (("and", EIGHT[4:]), ("and", EIGHT[:4])))), True)

    def test_wrong_values(self):
        book = read_book("a, b")
        for value in STRANGE + (("and", [("kind", "a"), ("kind", "b")]), ["and", EIGHT[:2]], ("and", EIGHT[:1] * 2), ("kind", "a"),
                                ("and", EIGHT[:3]), ("and", (Stubborn(), Stubborn())), ("and", (nested(5000), EIGHT[0])), "a and b",
                                ("and", (("many", 60, EIGHT[0]), ("many", 61, EIGHT[1]))), ("or", EIGHT[:2]),
                                ("and", (("many", True, EIGHT[0]), EIGHT[1])), ("and", (EIGHT[0], ("kind", Stubborn())))):
            self.assertIs(is_filling(book, value), False)
        self.assertIs(is_filling(book, ("and", EIGHT[:2])), True)


class Forced(Case):

    def check(self, book, found):
        """Check a lot of forced ways, and that each filling has all of them."""
        if found is None:
            self.assertEqual([], self.fillings_of(book))
            return
        self.assertEqual(list(found), sorted(set(found)))
        for formula in self.fillings_of(book):
            self.assertEqual({share(formula, way) for way in found}, {1})

    def fillings_of(self, book):
        try:
            return list(fillings(book))
        except Refused:
            return []

    def test_examples(self):
        self.assertEqual(forced_ways(book=TWO), TWO.ways)
        self.assertIsNone(forced_ways(read_book("a, b, c\n2 a\n2 b\n2 c")))
        # Also without any filling there may be some.
        self.assertEqual(forced_ways(read_book("a, b\n3 a")), ((1, 1), (3, 0)))
        self.assertEqual(forced_ways(read_book("2 a\na, b")), ((0, 2), (1, 1), (2, 0)))
        self.assertEqual(forced_ways(read_book("60 a\n59 a, b"))[0], (0, 60))
        self.assertEqual(len(forced_ways(read_book("60 a\n59 a, b"))), 61)
        # Of any size.
        self.assertEqual(forced_ways(read_book("2 a\na, 60 b")), ((0, 120), (1, 60), (2, 0)))
        self.assertEqual(forced_ways(read_book("60 a, 60 b\n59 a, 60 b, 60 c"))[0], (0, 60, 3600))

    def test_small(self):
        told = {"none": 0, "some": 0, "more": 0}
        for kinds, ways in all_small_books()[::2] + some_books(785, 250, kinds=4, ways=5, top=2):
            right = plain_forced(ways)
            book = Book(kinds, ways)
            if right == "wide":
                continue
            found = forced_ways(book)
            self.assertEqual(found, right)
            self.check(book, found)
            told["none" if found is None else "some" if found == ways else "more"] += 1
            if not stories(ways):
                self.assertEqual(found, ways)
        self.assertGreater(min(told.values()), 20)

    def test_even_books(self):
        for formula in some_formulas(786, 80, kinds=5, top=6):
            ways = tuple(sorted(formula_ways(formula, named(formula))))
            if len(ways) <= 60:
                self.assertEqual(forced_ways(Book(named(formula), ways)), ways)

    def test_parts_of_even_books(self):
        """What is missing of a formula often is forced."""
        chance = random.Random(787)
        whole = 0
        for formula in some_formulas(788, 150, kinds=4, top=6):
            kinds = named(formula)
            ways = sorted(formula_ways(formula, kinds))
            if 3 <= len(ways) <= 40:
                rest = sorted(chance.sample(ways, chance.randint(2, len(ways) - 1)))
                if all(any(way[k] for way in rest) for k in range(len(kinds))):
                    found = forced_ways(Book(kinds, tuple(rest)))
                    self.assertTrue(set(rest) <= set(found) <= set(ways))
                    whole += set(found) == set(ways)
        self.assertGreater(whole, 20)

    def test_wide(self):
        self.fault(Refused, "wide", forced_ways, read_book("60 a, 60 b\n59 a, 60 b, c\n60 a, 59 b, d"))
        for texts in ("18 of (a or b or c)", "18 of (a or b or c) or 9 of (d or e)"):
            book = book_of(read_formula(texts))
            for at in (0, 77, len(book.ways) - 2):
                less = Book(book.kinds, book.ways[:at] + book.ways[at + 1:])
                self.assertEqual(forced_ways(less), book.ways)


if __name__ == "__main__":
    unittest.main()
