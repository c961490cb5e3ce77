"""[1], [2], [6] class Book, [8], [9]."""

import random
import unittest

from asmany.books import Book, harm, is_harmless, least_ways, tidy_book
from asmany.errors import InvalidBook, Refused
from plain import STRANGE, Case, Stubborn, boxes, kinds_and_ways, least, lengths, some_books
from plain import strange_but, within

EIGHT = tuple("abcdefgh")


def hills(count):
    """So many ways of three kinds, ascending, none within another one."""
    rows = [(x, y, 60 - x - y) for x in range(20) for y in range(20)]
    return tuple(rows[:count])


class Books(Case):

    def test_attributes(self):
        kinds, ways = ("a", "b", "c"), ((0, 2, 1), (1, 0, 1))
        for book in (Book(kinds, ways), Book(kinds=kinds, ways=ways), Book(ways=ways, kinds=kinds)):
            self.assertEqual((book.kinds, book.ways), (kinds, ways))

    def test_equal(self):
        book = Book(("a", "b"), ((0, 1), (1, 0)))
        self.assertTrue(book == Book(("a", "b"), ((0, 1), (1, 0))))
        self.assertFalse(book != Book(("a", "b"), ((0, 1), (1, 0))))
        for other in (Book(("a", "c"), ((0, 1), (1, 0))), Book(("a", "b"), ((1, 1),))):
            self.assertFalse(book == other)
            self.assertTrue(book != other)
        for value in STRANGE + ((book.kinds, book.ways),):
            if not isinstance(value, Stubborn):
                self.assertFalse(book == value)
                self.assertTrue(book != value)

    def test_equal_to_no_other_class(self):
        class Alike:
            kinds, ways = ("a",), ((1,),)
        self.assertFalse(Book(("a",), ((1,),)) == Alike())

    def test_smallest_and_greatest(self):
        Book(("zzzzz",), ((60,),))
        Book(EIGHT, ((1,) * 8,))
        Book(("a", "aa", "b"), hills(200))

    def test_wrong_kinds(self):
        wrong = [
            (), EIGHT + ("i",), ("b", "a"), ("a", "a"), ("A",), ("aa ",), ("aaaaaa",), ("",),
            ("a1",), ("a_",), ("\u00e4",), (1,), ("a", None), ("a", 1), ["a"], "a", {"a": 1},
            (("a",),), ("a\n",), (b"a",), ("a", "b", "b"), ("a", ["b"]), ("{",), ("`",),
        ]
        for kinds in wrong + [(None,), (True,), ((),), (Stubborn(),)] + list(strange_but(1)):
            for ways in (((1,),), (), None, [], ((1, 1),)):
                self.fault(InvalidBook, -1, Book, kinds, ways)

    def test_ways_that_are_no_tuple(self):
        for ways in [[(1,)], None, True, 1, "a", {(1,): 1}, Stubborn(), range(0), b""]:
            self.fault(InvalidBook, -1, Book, ("a",), ways)

    def test_no_ways(self):
        self.fault(InvalidBook, 0, Book, ("a",), ())

    def test_wrong_ways(self):
        wrong = [
            [1, 0], (1,), (1, 0, 0), (), (61, 0), (1, -1), (True, 0), (1, False), (1, None),
            (0, 1.0), ("1", 0), (0, 0), ((1, 0), 0), (1, [0]), Stubborn(), (1, Stubborn()), 10 ** 30,
        ]
        for way in wrong + list(STRANGE):
            self.fault(InvalidBook, 0, Book, ("a", "b"), (way,))
            self.fault(InvalidBook, 0, Book, ("a", "b"), (way, (1, 2), None))
            self.fault(InvalidBook, 1, Book, ("a", "b"), ((0, 5), way))
            self.fault(InvalidBook, 1, Book, ("a", "b"), ((0, 5), way, way))

    def test_order_and_within(self):
        for at, ways in (
            (1, ((1, 0, 5), (1, 0, 5))),
            (1, ((1, 0, 5), (0, 6, 0))),
            (1, ((1, 0, 5), (1, 0, 6))),
            (2, ((0, 1, 2), (0, 2, 1), (1, 1, 2))),
            (3, ((0, 0, 3), (0, 1, 2), (1, 0, 2), (2, 2, 2))),
            (2, ((0, 1, 2), (1, 0, 1), (0, 5, 0))),
            (4, ((0, 0, 9), (0, 2, 0), (1, 1, 1), (3, 1, 0), (4, 0, 9))),
        ):
            self.fault(InvalidBook, at, Book, ("a", "b", "c"), ways)
        Book(("a", "b", "c"), ((0, 0, 9), (0, 2, 0), (1, 1, 1), (3, 1, 0), (4, 0, 8)))

    def test_within_an_early_one(self):
        self.fault(InvalidBook, 199, Book, ("a", "b", "c"), hills(199) + ((20, 0, 60),))

    def test_two_hundred(self):
        self.fault(InvalidBook, 200, Book, ("a", "b", "c"), hills(201))
        self.fault(InvalidBook, 200, Book, ("a", "b", "c"), hills(200) + (None,) * 1000)
        self.fault(InvalidBook, 150, Book, ("a", "b", "c"), hills(150) + (None,) + hills(201)[150:])

    def test_unused_kind(self):
        self.fault(InvalidBook, 1, Book, ("a", "b"), ((1, 0),))
        self.fault(InvalidBook, 2, Book, ("a", "b", "c"), ((0, 0, 1), (1, 0, 0)))
        self.fault(InvalidBook, 0, Book, ("a", "b", "c"), ((0, 0, 0), (1, 0, 0)))
        self.fault(InvalidBook, 200, Book, ("a", "b", "c", "d"), tuple(w + (0,) for w in hills(200)))


class LeastWays(Case):

    def test_examples(self):
        self.assertEqual(least_ways(()), ())
        self.assertEqual(least_ways(((0, 0),)), ((0, 0),))
        self.assertEqual(least_ways(((2, 0), (1, 1), (2, 0), (2, 1))), ((1, 1), (2, 0)))
        self.assertEqual(least_ways(ways=((10 ** 30,), (10 ** 29,))), ((10 ** 29,),))
        self.assertEqual(least_ways(((),)), ((),))

    def test_many(self):
        chance = random.Random(8)
        for _ in range(400):
            count = chance.randint(1, 4)
            ways = tuple(
                tuple(chance.randint(0, 3) for _ in range(count)) for _ in range(chance.randint(0, 9))
            )
            self.assertEqual(least_ways(ways), least(ways))
            if any(any(way) for way in ways):
                rows = tuple(way for way in ways if any(way))
                book = tidy_book(EIGHT[:count], rows)
                self.assertEqual((book.kinds, book.ways), kinds_and_ways(rows))

    def test_tidy(self):
        book = tidy_book(kinds=("a", "b", "c"), ways=((0, 5, 1), (0, 2, 0), (0, 2, 0)))
        self.assertEqual(book, Book(("b",), ((2,),)))
        book = tidy_book(("x", "y", "z"), ((3, 0, 1), (0, 0, 2), (3, 1, 1)))
        self.assertEqual(book, Book(("x", "z"), ((0, 2), (3, 1))))

    def test_wide(self):
        kinds = ("a", "b", "c")
        self.assertEqual(tidy_book(kinds, hills(200) + ((60, 60, 60),) * 9).ways, hills(200))
        self.fault(Refused, "wide", tidy_book, kinds, hills(201))
        self.fault(Refused, "wide", tidy_book, kinds, hills(400)[::-1])
        self.assertEqual(tidy_book(kinds, hills(400) + ((0, 0, 1), (0, 60, 0), (1, 0, 0))).ways,
                         ((0, 0, 1), (0, 60, 0), (1, 0, 0)))
        self.assertEqual(len(least_ways(hills(300))), 300)


class LongerWays(Case):

    def test_examples(self):
        self.assertEqual(is_harmless(((1, 0), (1, 1))), True)
        self.assertEqual(is_harmless(((1, 0), (0, 1), (1, 1))), False)
        self.assertEqual(harm(((1, 0), (0, 1), (1, 1))), (1, 1))
        self.assertIs(is_harmless(()), True)
        self.assertIsNone(harm(()))
        self.assertIs(is_harmless(ways=((2,), (3,))), False)
        self.assertEqual(lengths(((2,), (3,)), harm(ways=((2,), (3,)))), (1, 2))

    def test_many(self):
        chance = random.Random(9)
        unlike = 0
        for _ in range(300):
            count = chance.randint(1, 3)
            rows = [tuple(chance.randint(0, 2) for _ in range(count)) for _ in range(chance.randint(1, 5))]
            ways = tuple(row for row in rows if any(row))
            ones = least(ways)
            used = [k for k in range(count) if any(way[k] for way in ones)]
            free = all(
                way[k] <= one[k] for way in ways for one in ones if within(one, way) for k in used
            )
            self.assertIs(is_harmless(ways), free)
            if free:
                self.assertIsNone(harm(ways))
                known, alone = {}, {}
                for pool in boxes((4,) * count):
                    self.assertEqual(lengths(ways, pool, known), lengths(ones, pool, alone))
            else:
                found = lengths(ways, harm(ways))
                self.assertTrue(found[0] == 1 and found[-1] >= 2)
                unlike += 1
        self.assertGreater(unlike, 50)

    def test_same_stuck_pools(self):
        for kinds, ways in some_books(10, 30, kinds=3):
            longer = ways + tuple(tuple(x + 1 for x in way) for way in ways)
            for pool in boxes((3,) * len(kinds)):
                stuck = not any(within(way, pool) for way in longer)
                self.assertEqual(stuck, not any(within(way, pool) for way in least_ways(longer)))


if __name__ == "__main__":
    unittest.main()
