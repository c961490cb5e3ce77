"""[3] and [24]: stories."""

import unittest

from asmany.books import Book
from asmany.stories import all_stories, first_story, is_story, story_pool
from plain import STRANGE, Case, Stubborn, all_small_books, boxes, lengths, some_books, stories, within

ROAD = Book(("a", "b", "c", "d"), ((0, 0, 1, 1), (0, 1, 1, 0), (1, 1, 0, 0)))
RING = Book(("a", "b", "c"), ((0, 1, 1), (1, 0, 1), (1, 1, 0)))


def sums(number, count):
    """All ways of `number` of (one of `count` kinds)."""
    return [row for row in boxes((number,) * count) if sum(row) == number]


class Stories(Case):

    def test_examples(self):
        self.assertEqual(all_stories(ROAD), ((1, 0, 2),))
        self.assertEqual(first_story(ROAD), (1, 0, 2))
        self.assertEqual(story_pool(ROAD, (1, 0, 2)), (1, 1, 1, 1))
        self.assertEqual(first_story(RING), (0, 1, 2))
        self.assertEqual(story_pool(RING, (0, 1, 1)), (2, 1, 2))
        self.assertIs(is_story(ROAD, (1, 2, 0)), True)
        self.assertIs(is_story(ROAD, (0, 1, 2)), False)

    def test_names(self):
        self.assertIs(is_story(book=ROAD, value=(1, 0, 2)), True)
        self.assertEqual(story_pool(book=ROAD, story=(1, 2, 0)), (1, 1, 1, 1))
        self.assertEqual(all_stories(book=RING)[0], first_story(book=RING))

    def test_equal_ways(self):
        book = Book(("a", "b"), ((0, 3), (2, 1), (3, 0)))
        self.assertEqual(all_stories(book), ((1, 0, 2), (2, 1, 1)))
        self.assertIs(is_story(book, (2, 1, 1)), True)
        self.assertEqual(story_pool(book, (2, 1, 1)), (4, 2))

    def test_even_books(self):
        for book in (
            Book(("a",), ((60,),)),
            Book(("a", "b"), ((0, 2), (1, 1), (2, 0))),
            Book(tuple("abcdefgh"), ((1,) * 8,)),
            Book(tuple("abcdefgh"), tuple(sums(1, 8))),
        ):
            self.assertEqual(all_stories(book), ())
            self.assertIsNone(first_story(book))

    def test_any_value(self):
        wrong = STRANGE + (
            (1, 0), (1, 0, 2, 0), [1, 0, 2], "102", (True, 0, 2), (1, False, 2), (1, 0, None), (1, 0, 3),
            (1, 0, -1), (1.0, 0, 2), ("1", 0, 2), ((1,), 0, 2), (1, 0, [2]), (1, Stubborn(), 2), {1: 0},
        )
        for value in wrong:
            self.assertIs(is_story(ROAD, value), False)

    def test_all_small_books(self):
        uneven = 0
        for kinds, ways in all_small_books():
            found = self.compare(Book(kinds, ways))
            known = {}
            alike = all(len(lengths(ways, pool, known)) == 1 for pool in boxes((4,) * len(kinds)))
            if max(map(max, ways)) <= 2:
                self.assertIs(alike, not found)
            uneven += bool(found)
        self.assertGreater(uneven, 20)

    def test_many(self):
        uneven = 0
        for kinds, ways in some_books(30, 150, kinds=4, ways=6, top=4):
            found = self.compare(Book(kinds, ways))
            uneven += bool(found)
            if not found:
                self.check_even(ways)
        self.assertTrue(40 < uneven < 140)

    def compare(self, book):
        """Compare the stories of a book with those by the definition."""
        found = stories(book.ways)
        once = tuple(story for story in found if story[1] <= story[2])
        self.assertEqual(all_stories(book), once)
        self.assertEqual(first_story(book), once[0] if once else None)
        for s in range(len(book.ways)):
            for t in range(len(book.ways)):
                for u in range(len(book.ways)):
                    self.assertIs(is_story(book, (s, t, u)), (s, t, u) in found)
        for story in once[:3]:
            pool = story_pool(book, story)
            self.assertEqual(lengths(book.ways, pool)[:2], (1, 2))
        return once

    def check_even(self, ways):
        known = {}
        for pool in boxes([min(3, 2 * max(way[k] for way in ways)) for k in range(len(ways[0]))]):
            self.assertEqual(len(lengths(ways, pool, known)), 1)

    def test_two_hundred_ways(self):
        even = [left + right for left in sums(4, 4) for right in sums(4, 2)]
        book = Book(tuple("abcdef"), tuple(even))
        self.assertEqual(len(book.ways), 175)
        self.assertIsNone(first_story(book))
        wide = Book(("a", "b"), tuple((x, 60 - x) for x in range(61)))
        self.assertIsNone(first_story(wide))
        self.assertEqual(all_stories(wide), ())
        hills = tuple((x, y, 60 - x - y) for x in range(20) for y in range(20))[:200]
        found = first_story(Book(("a", "b", "c"), hills))
        self.assertTrue(found is not None and is_story(Book(("a", "b", "c"), hills), found))

    def test_late_story(self):
        rows = [(0, 0, 0, 0) + row for row in sums(8, 4)]
        rows += [row + (0, 0, 0, 0) for row in ((0, 0, 1, 1), (0, 1, 1, 0), (1, 1, 0, 0))]
        book = Book(tuple("abcdefgh"), tuple(rows))
        self.assertEqual(first_story(book), (166, 165, 167))

    def test_thirty_ways(self):
        rows = tuple(row for row in sums(4, 4) if row != (1, 1, 1, 1))[:30]
        book = Book(("a", "b", "c", "d"), rows)
        found = all_stories(book)
        self.assertEqual(found, tuple(story for story in stories(rows) if story[1] <= story[2]))
        self.assertGreater(len(found), 10)

    def test_least_pool(self):
        for kinds, ways in some_books(31, 60):
            book = Book(kinds, ways)
            for s, t, u in all_stories(book):
                pool = story_pool(book, (s, t, u))
                both = tuple(x + y for x, y in zip(ways[t], ways[u]))
                self.assertTrue(within(ways[s], pool) and within(both, pool))
                for x, y, z in zip(pool, ways[s], both):
                    self.assertEqual(x, max(y, z))


if __name__ == "__main__":
    unittest.main()
