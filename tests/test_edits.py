"""[85] Bundles, and books with one way more or less."""

import itertools
import unittest

from asmany.books import Book
from asmany.edits import book_with, book_without, bundle_of, is_bundle
from asmany.errors import InvalidNumber, Refused
from plain import STRANGE, Case, Stubborn, boxes, some_books, within

EIGHT = tuple("abcdefgh")
BOOK = Book(("a", "b", "c"), ((0, 2, 1), (1, 0, 1)))


def hills(count):
    return tuple((x, y, 60 - x - y) for x in range(20) for y in range(20))[:count]


class Bundles(Case):

    def test_bundles(self):
        for value in ((("a", 1),), (("zzzzz", 60),), (("a", 60), ("aa", 1), ("b", 7)),
                      tuple((name, 5) for name in "abcdefghijk")):
            self.assertIs(is_bundle(value), True)
        self.assertIs(is_bundle(value=(("a", 1),)), True)

    def test_no_bundles(self):
        wrong = (
            (), ("a", 1), (("a", 0),), (("a", 61),), (("a", -1),), (("a", True),), (("a", 1.0),), (("a", "1"),),
            (("A", 1),), (("", 1),), (("aaaaaa", 1),), ((1, 1),), (["a", 1],), [("a", 1)], (("a",),),
            (("a", 1, 1),), (("b", 1), ("a", 1)), (("a", 1), ("a", 1)), (("a", 1), ("a", 2)),
            (("a", 1), None), {"a": 1}, "a1", ((Stubborn(), 1),), (("a", Stubborn()),), ((("a",), 1),), (("a", None),),
        )
        for value in wrong:
            self.assertIs(is_bundle(value), False)
            self.fault(Refused, "bundle", book_with, BOOK, value)
        for value in STRANGE:
            self.assertIs(is_bundle(value), False)
            self.fault(Refused, "bundle", book_with, BOOK, value)

    def test_bundle_of(self):
        self.assertEqual(bundle_of(BOOK, 0), (("b", 2), ("c", 1)))
        self.assertEqual(bundle_of(book=BOOK, number=1), (("a", 1), ("c", 1)))
        for kinds, ways in some_books(50, 60):
            book = Book(kinds, ways)
            for number, way in enumerate(ways):
                bundle = bundle_of(book, number)
                self.assertIs(is_bundle(bundle), True)
                self.assertEqual(tuple(dict(bundle).get(kind, 0) for kind in kinds), way)

    def test_wrong_numbers(self):
        for number in STRANGE + (2, -1, "0", 0.0, (0,)):
            for book in (BOOK, Book(("a",), ((1,),))):
                self.fault(InvalidNumber, "number", bundle_of, book, number)
                self.fault(InvalidNumber, "number", book_without, book, number)


class Without(Case):

    def test_examples(self):
        self.assertEqual(book_without(BOOK, 0), Book(("a", "c"), ((1, 1),)))
        self.assertEqual(book_without(book=BOOK, number=1), Book(("b", "c"), ((2, 1),)))
        self.fault(Refused, "last", book_without, Book(("a",), ((1,),)), 0)
        self.assertEqual(book_without(Book(EIGHT[:3], hills(200)), 199), Book(EIGHT[:3], hills(199)))

    def test_many(self):
        for kinds, ways in some_books(51, 80):
            book = Book(kinds, ways)
            for number in range(len(ways)):
                if len(ways) > 1:
                    rest = ways[:number] + ways[number + 1:]
                    used = [k for k in range(len(kinds)) if any(way[k] for way in rest)]
                    found = book_without(book, number)
                    self.assertEqual(found.kinds, tuple(kinds[k] for k in used))
                    self.assertEqual(found.ways, tuple(tuple(way[k] for k in used) for way in rest))


class With(Case):

    def test_examples(self):
        self.assertEqual(book_with(BOOK, (("a", 3),)), Book(("a", "b", "c"), ((0, 2, 1), (1, 0, 1), (3, 0, 0))))
        found = book_with(book=BOOK, bundle=(("aa", 60), ("c", 5)))
        self.assertEqual(found, Book(("a", "aa", "b", "c"), ((0, 0, 2, 1), (0, 60, 0, 5), (1, 0, 0, 1))))
        self.assertEqual((BOOK.kinds, BOOK.ways), (("a", "b", "c"), ((0, 2, 1), (1, 0, 1))))

    def test_within(self):
        for bundle in (
            (("b", 2), ("c", 1)), (("b", 1),), (("a", 1), ("c", 1), ("d", 1)), (("a", 5), ("c", 5)),
            (("c", 1),), (("a", 1), ("c", 1), ("z", 60)),
        ):
            self.fault(Refused, "within", book_with, BOOK, bundle)

    def test_wide(self):
        full = Book(EIGHT, ((1,) * 8,))
        self.fault(Refused, "wide", book_with, full, (("i", 1),))
        self.fault(Refused, "wide", book_with, full, (("a", 2), ("i", 1)))
        self.fault(Refused, "within", book_with, full, tuple((kind, 1) for kind in "abcdefghi"))
        self.assertEqual(book_with(full, (("a", 2),)).ways, ((1,) * 8, (2,) + (0,) * 7))
        seven = Book(EIGHT[:7], ((1,) * 7,))
        self.assertEqual(book_with(seven, (("h", 9),)).kinds, EIGHT)
        self.fault(Refused, "wide", book_with, seven, (("h", 9), ("i", 1)))
        many = tuple((first + second, 1) for first, second in itertools.product("abcdefghij", repeat=2))
        self.fault(Refused, "wide", book_with, seven, many)
        wide = Book(EIGHT[:3], hills(200))
        self.fault(Refused, "wide", book_with, wide, (("d", 1),))
        self.fault(Refused, "wide", book_with, wide, (("b", 60),))
        self.fault(Refused, "within", book_with, wide, (("b", 1),))
        self.assertEqual(len(book_with(Book(EIGHT[:3], hills(199)), (("d", 1),)).ways), 200)

    def test_many(self):
        told = {"within": 0, "fine": 0}
        for kinds, ways in some_books(52, 40, kinds=3):
            book, wide = Book(kinds, ways), tuple(sorted((*kinds, "bb")))
            rows = [tuple(dict(zip(kinds, way)).get(kind, 0) for kind in wide) for way in ways]
            for amounts in boxes((2,) * len(wide)):
                bundle = tuple(pair for pair in zip(wide, amounts) if pair[1])
                if not bundle:
                    continue
                if any(within(row, amounts) or within(amounts, row) for row in rows):
                    self.fault(Refused, "within", book_with, book, bundle)
                    told["within"] += 1
                else:
                    found = book_with(book, bundle)
                    used = [k for k in range(len(wide)) if any(row[k] for row in rows) or amounts[k]]
                    self.assertEqual(found.kinds, tuple(wide[k] for k in used))
                    ways_now = sorted(tuple(row[k] for k in used) for row in [*rows, amounts])
                    self.assertEqual(found.ways, tuple(ways_now))
                    number = found.ways.index(tuple(amounts[k] for k in used))
                    self.assertEqual(bundle_of(found, number), bundle)
                    self.assertEqual(book_without(found, number), book)
                    told["fine"] += 1
        self.assertGreater(min(told.values()), 50)


if __name__ == "__main__":
    unittest.main()
