"""[76] Kinds left out, kinds in plenty."""

import unittest

from asmany.books import Book
from asmany.errors import Refused
from asmany.mending import calming_lots, easing_lots, story_kinds
from plain import Case, all_small_books, boxes, least, least_lots, lengths, some_books, stories, subsets, within

ROAD = Book(("a", "b", "c", "d"), ((0, 0, 1, 1), (0, 1, 1, 0), (1, 1, 0, 0)))
RING = Book(("a", "b", "c"), ((0, 1, 1), (1, 0, 1), (1, 1, 0)))
EIGHT = tuple("abcdefgh")


def are_even_longer(ways):
    """Whether full runs by ways, longer ones included, have one length from each pool."""
    ones = least(ways)
    used = [k for k in range(len(ones[0])) if any(one[k] for one in ones)]
    harmless = all(way[k] <= one[k] for way in ways for one in ones if within(one, way) for k in used)
    return harmless and not stories(ones)


class Mending(Case):

    def test_examples(self):
        self.assertEqual(story_kinds(ROAD), (("a", "b", "c", "d"),))
        self.assertEqual(calming_lots(ROAD), (("a",), ("b",), ("c",), ("d",)))
        self.assertEqual(easing_lots(ROAD), (("b",), ("c",)))
        self.assertEqual(calming_lots(RING), (("a",), ("b",), ("c",)))
        self.assertEqual(easing_lots(RING), ())
        self.assertEqual(story_kinds(book=RING), (("a", "b", "c"),))
        self.assertEqual(calming_lots(book=RING), calming_lots(RING))
        self.assertEqual(easing_lots(book=ROAD), easing_lots(ROAD))

    def test_even_books(self):
        for book in (Book(("a",), ((60,),)), Book(EIGHT, ((1,) * 8,)), Book(("a", "b"), ((0, 1), (1, 0)))):
            self.assertEqual(story_kinds(book), ())
            self.assertEqual(calming_lots(book), ((),))
            self.assertEqual(easing_lots(book), ((),))

    def test_nothing_eases(self):
        book = Book(("a", "b"), ((0, 3), (2, 1), (3, 0)))
        self.assertEqual(easing_lots(book), ())
        self.assertEqual(calming_lots(book), (("a",), ("b",)))

    def test_many(self):
        unlike = set()
        books = some_books(150, 150, kinds=4, ways=6) + some_books(151, 30, kinds=5, ways=6)
        for kinds, ways in all_small_books() + books:
            book = Book(kinds, ways)
            told = [
                tuple(kind for k, kind in enumerate(kinds) if any(ways[number][k] for number in story))
                for story in stories(ways)
            ]
            self.assertEqual(story_kinds(book), least_lots(told))
            calming, easing = [], []
            for lot in subsets(kinds):
                others = [k for k, kind in enumerate(kinds) if kind not in lot]
                inside = [k for k in range(len(kinds)) if k not in others]
                calm = not stories([way for way in ways if not any(way[k] for k in inside)])
                self.assertIs(calm, all(set(lot) & set(one) for one in story_kinds(book)))
                if calm:
                    calming.append(lot)
                rows = [tuple(way[k] for k in others) for way in ways]
                if all(map(any, rows)) and are_even_longer(rows):
                    easing.append(lot)
            self.assertEqual(calming_lots(book), least_lots(calming))
            self.assertEqual(easing_lots(book), least_lots(easing))
            unlike.add((len(told) > 0, len(easing) > 0))
            self.check_each_other(book, kinds)
        self.assertEqual(unlike, {(False, True), (True, True), (True, False)})

    def check_each_other(self, book, kinds):
        """Each of the two tuples has the least lots with a kind of each lot in the other."""
        one, other = story_kinds(book), calming_lots(book)
        for here, there in ((one, other), (other, one)):
            hitting = [lot for lot in subsets(kinds) if all(set(lot) & set(row) for row in there)]
            self.assertEqual(here, least_lots(hitting))

    def test_lengths_tell_what_eases(self):
        for kinds, ways in some_books(152, 40, kinds=3, ways=4):
            told = easing_lots(Book(kinds, ways))
            for lot in subsets(kinds):
                others = [k for k, kind in enumerate(kinds) if kind not in lot]
                rows = tuple(tuple(way[k] for k in others) for way in ways)
                if all(map(any, rows)):
                    known = {}
                    alike = all(len(lengths(rows, pool, known)) == 1 for pool in boxes((4,) * len(others)))
                    self.assertIs(alike, any(set(one) <= set(lot) for one in told))

    def test_sixteen_and_seventeen(self):
        for number in (16, 17):
            book = Book(("a", "b"), tuple((x, 20 - x) for x in range(number)))
            for call, told in ((story_kinds, (("a", "b"),)), (calming_lots, (("a",), ("b",))), (easing_lots, ())):
                if number == 17:
                    self.fault(Refused, "wide", call, book)
                else:
                    self.assertEqual(call(book), told)
        rows = [row for row in boxes((1,) * 8) if sum(row) == 4]
        book = Book(EIGHT, tuple(rows[:64:4]))
        self.assertEqual(len(book.ways), 16)
        self.assertTrue(story_kinds(book) and calming_lots(book))
        self.assertTrue(all(set(lot) < set(EIGHT) for lot in easing_lots(book)))


if __name__ == "__main__":
    unittest.main()
