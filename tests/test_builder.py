"""[29] The formula of a book."""

import itertools
import unittest

from asmany.books import Book
from asmany.builder import built
from asmany.formulas import normal
from asmany.layouts import book_of
from asmany.tables import formula_of_table, most_of, pair_table
from plain import Case, all_small_books, formula_ways, named, some_books, some_formulas, stories

A, B, C = [("kind", name) for name in "abc"]


class Built(Case):

    def test_examples(self):
        ring = Book(("a", "b", "c"), ((0, 1, 1), (1, 0, 1), (1, 1, 0)))
        self.assertIsNone(built(book=ring))
        # An uneven book may have the table of a formula.
        self.assertEqual(formula_of_table(most_of(ring), pair_table(ring)), ("and", (A, B, C)))
        self.assertEqual(built(Book(("a", "b", "c"), ((1, 0, 1), (1, 1, 0)))), ("and", (A, ("or", (B, C)))))
        self.assertIsNone(built(Book(("a", "b", "c", "d"), ((0, 0, 1, 1), (0, 1, 1, 0), (1, 1, 0, 0)))))
        self.assertEqual(built(Book(("a",), ((60,),))), ("many", 60, A))
        self.assertIsNone(built(Book(("a", "b"), ((0, 4), (1, 3), (3, 1), (4, 0)))))
        self.assertEqual(built(Book(("a", "b"), ((0, 4), (1, 3), (2, 2), (3, 1), (4, 0)))), ("many", 4, ("or", (A, B))))

    def check(self, kinds, ways):
        found = built(Book(kinds, ways))
        if found is None:
            return False
        self.assertEqual(normal(found), found)
        self.assertEqual(named(found), kinds)
        self.assertEqual(tuple(sorted(formula_ways(found, kinds))), ways)
        return True

    def test_even_books_have_one(self):
        """A book is even exactly if it has a formula: each has a formula or a story, none both."""
        told = [0, 0]
        for kinds, ways in all_small_books() + some_books(290, 400, kinds=4, ways=6, top=2):
            even = self.check(kinds, ways)
            self.assertIs(even, not stories(ways))
            told[even] += 1
        self.assertGreater(min(told), 100)

    def test_formulas_of_formulas(self):
        for formula in some_formulas(291, 400, kinds=5, top=6):
            kinds = named(formula)
            ways = tuple(sorted(formula_ways(formula, kinds)))
            if len(ways) <= 25:
                self.assertEqual(built(Book(kinds, ways)), normal(formula))
                for at in range(min(len(ways), 6)):
                    rest = ways[:at] + ways[at + 1:]
                    if rest and all(any(way[k] for way in rest) for k in range(len(kinds))):
                        self.assertIs(self.check(kinds, rest), not stories(rest))

    def test_two_hundred_ways(self):
        wide = ("and", (("many", 7, ("or", (A, B))), ("many", 24, ("or", (C, ("kind", "d"))))))
        book = book_of(wide)
        self.assertEqual(len(book.ways), 200)
        self.assertEqual(built(book), wide)
        self.assertIsNone(built(Book(book.kinds, book.ways[:77] + book.ways[78:])))
        ways = tuple(row for row in itertools.product(range(19), repeat=3) if sum(row) == 18)
        self.assertEqual(built(Book(("a", "b", "c"), ways)), ("many", 18, ("or", (A, B, C))))
        self.assertIsNone(built(Book(("a", "b", "c"), ways[:-5] + ways[-4:])))


if __name__ == "__main__":
    unittest.main()
