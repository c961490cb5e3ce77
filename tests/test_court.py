"""[29]: the court."""

import random
import time
import unittest

from asmany.books import Book
from asmany.builder import built
from asmany.court import AsMany, Told, court, is_verdict
from asmany.formulas import check_formula, normal
from asmany.layouts import book_of
from asmany.shows import read_formula, show_formula
from asmany.tables import formula_of_table, most_of, pair_table
from asmany.texts import read_book
from plain import STRANGE, Case, Stubborn, all_small_books, formula_ways, named, nested, some_books
from plain import some_formulas, stories, wide_book

ROAD = read_book("a, b\nb, c\nc, d")
RING = read_book("a, b\nb, c\na, c")
EVEN = read_book("a, b\na, c")


class Pretender:
    """An object with the attributes of both verdicts."""

    def __init__(self, formula, story):
        self.formula, self.story = formula, story


class OfTheCourt(Case):

    def test_classes(self):
        held = Stubborn()
        self.assertEqual(vars(AsMany(formula=5)), {"formula": 5})
        self.assertEqual(vars(Told(story=5)), {"story": 5})
        self.assertIs(AsMany(held).formula, held)
        self.assertIs(Told(held).story, held)

    def test_examples(self):
        found = court(book=EVEN)
        self.assertIs(found.__class__, AsMany)
        self.assertEqual(show_formula(found.formula), "a and (b or c)")
        found = court(ROAD)
        self.assertIs(found.__class__, Told)
        self.assertEqual(found.story, (1, 0, 2))
        # An uneven book may have the table of a formula.
        self.assertEqual(formula_of_table(most_of(RING), pair_table(RING)), read_formula("a and b and c"))
        self.assertEqual(court(RING).story, (0, 1, 2))
        self.assertIs(is_verdict(RING, AsMany(read_formula("a and b and c"))), False)

    def test_small(self):
        """Each book has a formula or a story, and none has both."""
        told = [0, 0]
        for kinds, ways in all_small_books() + some_books(290, 250, kinds=5, ways=7, top=3):
            book = Book(kinds, ways)
            found = court(book)
            right = stories(ways)
            told[bool(right)] += 1
            if right:
                self.assertIs(found.__class__, Told)
                self.assertEqual(found.story, min((s, t, u) for s, t, u in right if t <= u))
                self.assertIs(is_verdict(book, Told((found.story[0], found.story[2], found.story[1]))), True)
            else:
                self.assertIs(found.__class__, AsMany)
                self.assertIsNone(check_formula(found.formula))
                self.assertEqual(normal(found.formula), found.formula)
                self.assertEqual(named(found.formula), kinds)
                self.assertEqual(formula_ways(found.formula, kinds), set(ways))
            self.assertIs(is_verdict(book, found), True)
        self.assertGreater(min(told), 120)

    def test_formulas(self):
        chance = random.Random(29)
        for formula in some_formulas(291, 200, kinds=6, top=6):
            ways = sorted(formula_ways(formula, named(formula)))
            if len(ways) > 60:
                continue
            book = Book(named(formula), tuple(ways))
            self.assertEqual(court(book).formula, normal(formula))
            # Verdicts need not be normal.
            self.assertIs(is_verdict(book, AsMany(formula)), True)
            other = chance.choice(some_formulas(chance.randint(0, 9), 20, kinds=6, top=6))
            same = named(other) == named(formula) and formula_ways(other, named(other)) == set(ways)
            self.assertIs(is_verdict(book, AsMany(other)), same)
            if len(ways) > 1:
                for at in range(0, len(ways), 5):
                    rest = ways[:at] + ways[at + 1:]
                    if all(any(way[k] for way in rest) for k in range(len(book.kinds))):
                        self.assertIs(is_verdict(Book(book.kinds, tuple(rest)), AsMany(formula)), False)

    def test_wide(self):
        started = time.monotonic()
        formula = read_formula("18 of (a or b or c) or 9 of (d or e)")
        wide = book_of(formula)
        self.assertEqual(len(wide.ways), 200)
        self.assertIs(is_verdict(wide, court(wide)), True)
        for at in (0, 100, 199):
            rest = Book(wide.kinds, wide.ways[:at] + wide.ways[at + 1:])
            found = court(rest)
            self.assertIs(found.__class__, Told)
            self.assertIs(is_verdict(rest, found), True)
            self.assertIs(is_verdict(rest, court(wide)), False)
            self.assertIs(is_verdict(wide, found), False)
        book = Book(*wide_book(292))
        self.assertIs(is_verdict(book, court(book)), True)
        self.assertIsNone(built(book))
        # A formula of very many ways is no verdict on any book.
        self.assertIs(is_verdict(book, AsMany(("many", 60, ("or", tuple(("kind", name) for name in "abcdefgh"))))), False)
        self.assertLess(time.monotonic() - started, 30)

    def test_wrong_values(self):
        right = read_formula("a and (b or c)")
        for book in (ROAD, EVEN):
            for value in STRANGE + (right, (1, 0, 2), AsMany, Told, Pretender(right, (1, 0, 2)), [court(book)], (court(book),)):
                self.assertIs(is_verdict(book, value), False)
                self.assertIs(is_verdict(book, AsMany(value)), value is right and book is EVEN)
                self.assertIs(is_verdict(book, Told(value)), book is ROAD and value.__class__ is tuple and value is not right
                              and len(value) == 3 and value[0].__class__ is int)
        deep = nested(5000)
        for formula in (("and", [("kind", "a"), ("kind", "b")]), ["kind", "a"], ("and", (right, ("kind", "a"))), ("kind", "A"),
                        ("many", 61, right), ("and", (("kind", "a"),)), ("or", (deep, deep)), ("many", 2, Stubborn()),
                        ("and", (("kind", "a"), ("or", (("kind", "b"), ("kind", "d"))))), ("and", (Stubborn(), Stubborn())),
                        ("and", (("kind", "a"), ("or", (("kind", "b"), ("many", 2, ("kind", "c"))))))):
            self.assertIs(is_verdict(EVEN, AsMany(formula)), False)
        for story in ((1, 0), [1, 0, 2], (1, 0, 3), (0, 1, 2), (True, 0, 2), (1, 0.0, 2), (1, 0, None), (1, 0, -1), "102",
                      (1, 0, 2, 2), (Stubborn(), 0, 2)):
            self.assertIs(is_verdict(ROAD, Told(story)), False)
        self.assertIs(is_verdict(book=ROAD, value=Told((1, 0, 2))), True)
        self.assertIs(is_verdict(EVEN, Told((0, 1, 1))), False)


if __name__ == "__main__":
    unittest.main()
