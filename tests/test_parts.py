"""[6] renamed_book and [10] lacking, plenty."""

import random
import unittest

from asmany.books import Book, is_harmless
from asmany.errors import Refused
from asmany.parts import lacking, plenty, renamed_book
from asmany.stories import first_story
from plain import STRANGE, Case, Stubborn, boxes, kinds_and_ways, lengths, some_books, stories, strange_but, subsets

ROAD = Book(("a", "b", "c", "d"), ((0, 0, 1, 1), (0, 1, 1, 0), (1, 1, 0, 0)))
EIGHT = tuple("abcdefgh")


class Renamed(Case):

    def test_examples(self):
        book = Book(("a", "b", "c"), ((0, 2, 1), (1, 0, 1)))
        names = {"a": "x", "b": "y", "c": "b"}
        found = renamed_book(book, names)
        self.assertEqual(found, Book(("b", "x", "y"), ((1, 0, 2), (1, 1, 0))))
        self.assertEqual(names, {"a": "x", "b": "y", "c": "b"})
        self.assertEqual(renamed_book(book=book, names={"a": "b", "b": "a", "c": "zzzzz", "d": 7, None: "b"}),
                         Book(("a", "b", "zzzzz"), ((0, 1, 1), (2, 0, 1))))
        self.assertEqual(renamed_book(book, {"a": "a", "b": "b", "c": "c"}), book)

    def test_many(self):
        chance = random.Random(1)
        for kinds, ways in some_books(90, 80):
            book = Book(kinds, ways)
            names = dict(zip(kinds, chance.sample(["a", "b", "c", "d", "aa", "ba", "zz"], len(kinds))))
            found = renamed_book(book, names)
            self.assertEqual(
                sorted(sorted(zip(found.kinds, way)) for way in found.ways),
                sorted(sorted(zip(map(names.get, kinds), way)) for way in ways),
            )
            back = {name: kind for kind, name in names.items()}
            self.assertEqual(renamed_book(found, back), book)

    def test_refused(self):
        book = Book(("a", "b"), ((0, 1), (1, 0)))
        for names in ({}, {"a": "x"}, {"b": "x"}, {"a": "x", "b": "x"}, {"a": "b", "c": "d"}, {"x": "a", "y": "b"}):
            self.fault(Refused, "names", renamed_book, book, names)
        for name in [value for value in STRANGE if value.__class__ is not str or value == ""] + [
                "A", "aaaaaa", "a b", "x1", Stubborn()]:
            self.fault(Refused, "names", renamed_book, book, {"a": name, "b": "x"})
            self.fault(Refused, "names", renamed_book, book, {"a": "x", "b": name})


class Parts(Case):

    def test_examples(self):
        self.assertEqual(lacking(ROAD, ("a",)), Book(("b", "c", "d"), ((0, 1, 1), (1, 1, 0))))
        self.assertEqual(plenty(ROAD, ("a",)), Book(("b", "c", "d"), ((0, 1, 1), (1, 0, 0))))
        self.assertEqual(lacking(book=ROAD, lot=("a", "d")), Book(("b", "c"), ((1, 1),)))
        self.assertEqual(plenty(book=ROAD, lot=("b", "d")), Book(("a", "c"), ((0, 1), (1, 0))))
        for call in (lacking, plenty):
            self.assertEqual(call(ROAD, ()), ROAD)
        book = Book(("a", "b", "c"), ((0, 0, 2), (0, 1, 1), (1, 0, 1)))
        self.assertEqual(plenty(book, ("b",)), Book(("c",), ((1,),)))

    def test_refused(self):
        for lot in [("b", "c"), ("a", "b", "c", "d"), ("a", "c")]:
            self.fault(Refused, "none", lacking, ROAD, lot)
        for lot in [("a", "b"), ("b", "c"), ("a", "b", "c", "d")]:
            self.fault(Refused, "free", plenty, ROAD, lot)
        wrong = [value for value in strange_but(0) if value.__class__ is not tuple or len(value) > 1]
        wrong += [(None,), (True,), ((),), (Stubborn(),), ("b", "a"), ("a", "a"), ("e",), ("a", "e"), ["a"],
                  {"a": 1}, "ab", ("a", None), ("A",), ("a", "b", "c", "d", "e"), (("a",),)]
        for lot in wrong:
            self.fault(Refused, "lot", lacking, ROAD, lot)
            self.fault(Refused, "lot", plenty, ROAD, lot)

    def test_one_and_eight_kinds(self):
        book = Book(("a",), ((60,),))
        self.fault(Refused, "none", lacking, book, ("a",))
        self.fault(Refused, "free", plenty, book, ("a",))
        book = Book(EIGHT, tuple(tuple(int(k == 7 - j) for k in range(8)) for j in range(8)))
        self.assertEqual(lacking(book, EIGHT[1:]), Book(("a",), ((1,),)))
        book = Book(EIGHT, ((60,) * 8,))
        self.assertEqual(plenty(book, EIGHT[:7]), Book(("h",), ((60,),)))

    def test_many(self):
        told = {"none": 0, "free": 0, "fine": 0}
        for kinds, ways in some_books(91, 80, kinds=4, ways=6):
            book = Book(kinds, ways)
            for lot in subsets(kinds):
                inside = [k for k, kind in enumerate(kinds) if kind in lot]
                others = [k for k in range(len(kinds)) if k not in inside]
                rest = [way for way in ways if not any(way[k] for k in inside)]
                if rest:
                    self.check_book(lacking(book, lot), kinds, rest)
                    told["fine"] += 1
                else:
                    self.fault(Refused, "none", lacking, book, lot)
                    told["none"] += 1
                rest = [tuple(way[k] for k in others) for way in ways]
                if all(map(any, rest)):
                    self.check_book(plenty(book, lot), [kinds[k] for k in others], rest)
                else:
                    self.fault(Refused, "free", plenty, book, lot)
                    told["free"] += 1
        self.assertGreater(min(told.values()), 50)

    def check_book(self, book, kinds, rows):
        letters, ways = kinds_and_ways(rows)
        self.assertEqual(book.ways, ways)
        self.assertEqual(book.kinds, tuple(kinds["abcdefgh".index(letter)] for letter in letters))

    def test_same_lengths(self):
        for kinds, ways in some_books(92, 40, kinds=3, ways=4):
            book = Book(kinds, ways)
            for lot in subsets(kinds):
                others = [k for k, kind in enumerate(kinds) if kind not in lot]
                rows = tuple(tuple(way[k] for k in others) for way in ways)
                for small in boxes((3,) * len(others)):
                    rest = dict(zip(others, small))
                    pool = tuple(rest.get(k, 0) for k in range(len(kinds)))
                    self.check_lacking(book, lot, pool)
                    pool = tuple(rest.get(k, 60 * sum(small)) for k in range(len(kinds)))
                    if all(map(any, rows)):
                        self.assertEqual(lengths(ways, pool), lengths(rows, small))

    def check_lacking(self, book, lot, pool):
        """Compare the lengths from a pool with nothing of the lot with those of the part."""
        try:
            part = lacking(book, lot)
        except Refused:
            self.assertEqual(lengths(book.ways, pool), (0,))
            return
        amounts = dict(zip(book.kinds, pool))
        self.assertEqual(lengths(book.ways, pool), lengths(part.ways, tuple(amounts[kind] for kind in part.kinds)))

    def test_even_books_have_even_parts(self):
        even = 0
        for kinds, ways in some_books(93, 150, kinds=4, ways=6):
            if stories(ways):
                continue
            even += 1
            book = Book(kinds, ways)
            for lot in subsets(kinds):
                others = [k for k, kind in enumerate(kinds) if kind not in lot]
                rows = tuple(tuple(way[k] for k in others) for way in ways)
                if all(map(any, rows)):
                    self.assertEqual(stories(plenty(book, lot).ways), [])
                    self.assertTrue(is_harmless(rows))
                try:
                    self.assertEqual(stories(lacking(book, lot).ways), [])
                except Refused as error:
                    self.assertEqual(error.word, "none")
        self.assertGreater(even, 30)

    def test_uneven_book_with_even_parts(self):
        book = Book(("a", "b"), ((0, 4), (1, 3), (3, 1), (4, 0)))
        self.assertIsNotNone(first_story(book))
        for lot in (("a",), ("b",)):
            self.assertIsNone(first_story(lacking(book, lot)))
            self.assertRaises(Refused, plenty, book, lot)

    def test_two_hundred_ways(self):
        ways = tuple((x, y, 60 - x - y) for x in range(20) for y in range(20))[:200]
        book = Book(EIGHT[:3], ways)
        self.assertEqual(plenty(book, ()), book)
        self.assertEqual(lacking(book, ("a",)), Book(("b", "c"), tuple(way[1:] for way in ways[:20])))
        self.assertEqual(plenty(book, ("a", "b")), Book(("c",), ((32,),)))


if __name__ == "__main__":
    unittest.main()
