"""[54] and [55]: bars, lone ways, supports."""

import unittest

from asmany.bars import bar_within, bars, is_bar, lone_ways, short_bar, supports
from asmany.books import Book
from asmany.errors import InvalidPool, Refused
from asmany.runs import is_stuck
from plain import STRANGE, Case, Stubborn, boxes, least_lots, some_books, strange_but, subsets, within

STAR = Book(("a", "b", "c", "d"), ((0, 0, 1, 1), (0, 1, 0, 1), (1, 0, 0, 1), (1, 1, 1, 0)))
EIGHT = tuple("abcdefgh")
GREAT = 10 ** 18


def support(kinds, way):
    return tuple(kind for kind, amount in zip(kinds, way) if amount)


def plain_bars(kinds, ways):
    """All bars, least or not, by the definition."""
    return [
        lot for lot in subsets(kinds) if all(set(lot) & set(support(kinds, way)) for way in ways)
    ]


class Bars(Case):

    def test_star(self):
        self.assertEqual(bars(STAR), (("a", "b", "c"), ("a", "d"), ("b", "d"), ("c", "d")))
        self.assertIs(is_bar(STAR, ("a", "b", "d")), True)
        self.assertIs(is_bar(book=STAR, lot=("b", "c")), False)
        self.assertIs(is_bar(STAR, ()), False)
        self.assertEqual(bar_within(STAR, ("a", "b", "c", "d")), ("a", "b", "c"))
        self.assertEqual(bar_within(book=STAR, lot=("b", "c", "d")), ("b", "d"))
        self.assertIsNone(bar_within(STAR, ("b", "c")))
        self.assertIsNone(bar_within(STAR, ()))
        self.assertEqual(lone_ways(STAR, ("a", "d")), {"a": (3,), "d": (0, 1)})
        self.assertEqual(lone_ways(book=STAR, bar=EIGHT[:4]), {"a": (), "b": (), "c": (), "d": ()})
        self.assertEqual(supports(STAR), (("a", "b", "c"), ("a", "d"), ("b", "d"), ("c", "d")))
        self.assertEqual(short_bar(STAR, (0, 0, 0, 9)), ("a", "b", "c"))
        self.assertEqual(short_bar(book=STAR, pool=(0, 0, 0, 0)), ("a", "b", "c"))
        self.assertEqual(short_bar(STAR, (1, 0, 0, 0)), ("b", "d"))
        self.assertIsNone(short_bar(STAR, (1, 1, 0, 5)))

    def test_amounts(self):
        book = Book(("a", "b"), ((1, 2), (3, 1)))
        self.assertEqual(short_bar(book, (2, 9)), ("a",))
        self.assertIsNone(short_bar(book, (3, 2)))
        self.assertEqual(short_bar(book, (3, 1)), ("b",))
        self.assertEqual(short_bar(book, (2, 2)), ("a",))
        self.assertEqual(supports(book), (("a", "b"),))

    def test_one_kind_and_eight(self):
        book = Book(("a",), ((60,),))
        self.assertEqual((bars(book), supports(book)), ((("a",),), (("a",),)))
        self.assertEqual(short_bar(book, (59,)), ("a",))
        self.assertIsNone(short_bar(book, (60,)))
        self.assertEqual(lone_ways(book, ("a",)), {"a": (0,)})
        book = Book(EIGHT, tuple(tuple(int(k == 7 - j) for k in range(8)) for j in range(8)))
        self.assertEqual((bars(book), supports(book)), ((EIGHT,), tuple((kind,) for kind in EIGHT)))
        book = Book(EIGHT, ((1,) * 8,))
        self.assertEqual((bars(book), supports(book)), (tuple((kind,) for kind in EIGHT), (EIGHT,)))
        self.assertIsNone(short_bar(book, (GREAT,) * 8))

    def test_two_hundred_ways(self):
        ways = tuple((x, y, 60 - x - y) for x in range(20) for y in range(20))[:200]
        book = Book(("a", "b", "c"), ways)
        self.assertEqual(bars(book), (("c",),))
        self.assertEqual(supports(book), (("c",),))
        self.assertEqual(lone_ways(book, ("c",)), {"c": tuple(range(200))})

    def test_wrong_lots(self):
        wrong = [value for value in strange_but(0) if value.__class__ is not tuple or len(value) > 1]
        wrong += [
            (None,), (True,), ((),), (Stubborn(),), ("b", "a"), ("a", "a"), ("e",), ("a", "e"), ("a", None), ["a"],
            {"a": 1}, ("ab",), (1,),
            (("a",),), ("a", Stubborn()), (["a"],), ("a", "b", "c", "d", "e"), ("A",), ("",),
        ]
        for lot in wrong:
            for call in (is_bar, bar_within, lone_ways):
                self.fault(Refused, "lot", call, STAR, lot)
        for lot in ((), ("a",), ("a", "b"), ("d",)):
            self.fault(Refused, "bar", lone_ways, STAR, lot)

    def test_wrong_pools(self):
        for value in STRANGE + ((1, 1, 1), (1,) * 5, [1] * 4):
            self.fault(InvalidPool, -1, short_bar, STAR, value)
        for item in STRANGE + (GREAT + 1,):
            self.fault(InvalidPool, 2, short_bar, STAR, (0, GREAT, item, item))

    def test_many(self):
        for kinds, ways in some_books(40, 120, kinds=4, ways=6):
            self.check_book(Book(kinds, ways))

    def check_book(self, book):
        """Compare everything with what the definitions tell."""
        found = plain_bars(book.kinds, book.ways)
        ones = least_lots(found)
        self.assertEqual(bars(book), ones)
        backed = least_lots([support(book.kinds, way) for way in book.ways])
        self.assertEqual(supports(book), backed)
        for lot in subsets(book.kinds):
            self.assertIs(is_bar(book, lot), lot in found)
            inside = [bar for bar in ones if set(bar) <= set(lot)]
            self.assertEqual(bar_within(book, lot), inside[0] if inside else None)
            pool = tuple(0 if kind in lot else 60 for kind in book.kinds)
            self.assertIs(is_stuck(book, pool), lot in found)
            touched = all(set(lot) & set(bar) for bar in ones)
            self.assertIs(touched, any(set(one) <= set(lot) for one in backed))
        for bar in found:
            self.check_lone(book, bar, bar in ones)

    def check_lone(self, book, bar, is_least):
        table = lone_ways(book, bar)
        self.assertEqual(list(sorted(table)), list(bar))
        for kind, numbers in table.items():
            self.assertEqual(numbers, tuple(
                number for number, way in enumerate(book.ways)
                if set(support(book.kinds, way)) & set(bar) == {kind}
            ))
        self.assertIs(all(table.values()), is_least)

    def test_short(self):
        for kinds, ways in some_books(41, 40, kinds=3, top=3):
            book = Book(kinds, ways)
            for pool in boxes((4,) * len(kinds)):
                short = tuple(
                    kind for k, kind in enumerate(kinds) if any(way[k] > pool[k] for way in ways)
                )
                self.assertEqual(short_bar(book, pool), bar_within(book, short))
                if short_bar(book, pool) is None:
                    self.assertTrue(any(within(way, pool) for way in ways))

    def test_new_dicts(self):
        table = lone_ways(STAR, ("a", "d"))
        table.clear()
        self.assertEqual(lone_ways(STAR, ("a", "d")), {"a": (3,), "d": (0, 1)})


if __name__ == "__main__":
    unittest.main()
