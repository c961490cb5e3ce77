"""[39], [40]: session stories, mirrors, and stories made of one another."""

import itertools
import random
import unittest

from asmany.books import Book
from asmany.errors import InvalidNumber, Refused
from asmany.mirrors import all_session_stories, first_session_story, is_session_story, mirror_fault
from asmany.mirrors import session_story_of, story_of_session, story_rounds
from plain import STRANGE, Case, Stubborn, all_small_books, boxes, minus, plain_sessions, plus, rounds
from plain import served, some_books, stories, within

ROAD = Book(("a", "b", "c", "d"), ((0, 0, 1, 1), (0, 1, 1, 0), (1, 1, 0, 0)))
PATH = Book(("a", "b", "c"), ((0, 1, 1), (1, 0, 1), (1, 1, 0)))


def session_stories(ways):
    """All session stories, by the definition."""
    found = []
    for s, t, u in itertools.product(range(len(ways)), repeat=3):
        demand = plus(ways[t], ways[u])
        smaller = tuple(map(min, ways[s], demand))
        if smaller in plain_sessions(ways, demand) and not served(ways, minus(demand, smaller)):
            found.append((s, t, u))
    return found


def wide_ways(count):
    """So many ways of three kinds."""
    return tuple(sorted(row for row in itertools.product(range(19), repeat=3) if sum(row) == 18))[:count]


class SessionStories(Case):

    def test_examples(self):
        self.assertEqual(all_session_stories(book=ROAD), ((1, 0, 2),))
        self.assertEqual(first_session_story(book=ROAD), (1, 0, 2))
        self.assertIs(is_session_story(book=ROAD, value=(1, 2, 0)), True)
        self.assertIs(is_session_story(ROAD, (0, 1, 2)), False)
        self.assertEqual(story_rounds(book=ROAD, story=(1, 2, 0)),
                         (((1, 1, 0, 0), (0, 0, 1, 1)), ((0, 1, 1, 0), (0, 0, 0, 1), (1, 0, 0, 0))))
        self.assertIsNone(first_session_story(Book(("a",), ((60,),))))
        self.assertEqual(all_session_stories(Book(("a",), ((60,),))), ())

    def check(self, kinds, ways):
        book = Book(kinds, ways)
        told = session_stories(ways)
        found = tuple(story for story in told if story[1] <= story[2])
        self.assertEqual(all_session_stories(book), found)
        self.assertEqual(first_session_story(book), found[0] if found else None)
        for triple in itertools.product(range(len(ways)), repeat=3):
            self.assertIs(is_session_story(book, triple), triple in told)
        for story in told:
            self.check_rounds(book, story)
        return told

    def check_rounds(self, book, story):
        s, t, u = story
        demand = plus(book.ways[t], book.ways[u])
        short, long = story_rounds(book, story)
        self.assertEqual(short, (book.ways[t], book.ways[u]))
        self.assertGreater(len(long), 2)
        self.assertEqual(long[0], tuple(map(min, book.ways[s], demand)))
        for row in (short, long):
            rest = demand
            for at, session in enumerate(row):
                found = plain_sessions(book.ways, rest)
                self.assertIn(session, found)
                if row is long and at > 0:
                    self.assertEqual(session, found[0])
                rest = minus(rest, session)
            self.assertFalse(any(rest))

    def test_all_small(self):
        """Even books are just those without a session story."""
        told = [0, 0]
        for kinds, ways in all_small_books():
            even = not stories(ways)
            self.assertIs(not self.check(kinds, ways), even)
            told[even] += 1
        self.assertGreater(min(told), 30)

    def test_many(self):
        for kinds, ways in some_books(390, 150, kinds=4, ways=5, top=2):
            self.assertIs(not self.check(kinds, ways), not stories(ways))

    def test_least_demands(self):
        """A least demand with two lengths has the lengths 2 and 3."""
        some = 0
        for kinds, ways in list(all_small_books())[::5] + some_books(391, 40, kinds=3, ways=5, top=2):
            known, split = {}, []
            for demand in sorted(boxes((4,) * len(kinds)), key=sum):
                if not any(within(one, demand) for one in split):
                    lengths = sorted(rounds(ways, demand, known)[0])
                    if len(lengths) > 1:
                        split.append(demand)
                        self.assertEqual(lengths, [2, 3])
                        some += 1
        self.assertGreater(some, 50)

    def test_wrong_values(self):
        for value in STRANGE + ((1, 0), (1, 0, 2, 0), [1, 0, 2], "102", (1, 0, 3), (1, 0, -1), (True, 0, 2),
                                (1, False, 2), (1.0, 0, 2), (1, 0, None), (1, 0, (2,)), {1: 0}, (1, 0, Stubborn())):
            self.assertIs(is_session_story(ROAD, value), False)
            self.fault(Refused, "story", story_of_session, ROAD, value)
            self.fault(Refused, "story", session_story_of, ROAD, value)

    def test_thirty_ways(self):
        even = tuple(sorted(row for row in itertools.product(range(29), repeat=2) if sum(row) == 28))
        self.assertIsNone(first_session_story(Book(("a", "b"), even)))
        ways = tuple(row + (1,) for row in even) + ((30, 30, 0),)
        book = Book(("a", "b", "c"), tuple(sorted(ways)))
        self.assertEqual(len(book.ways), 30)
        found = all_session_stories(book)
        self.assertEqual(found[:1], (first_session_story(book),))
        chance = random.Random(5)
        for story in chance.sample(found, min(len(found), 3)):
            self.assertTrue(is_session_story(book, story))


class Mirrors(Case):

    def test_examples(self):
        self.assertIsNone(mirror_fault(PATH, 0, 0))
        self.assertIsNotNone(mirror_fault(book=ROAD, one=0, other=2))
        self.assertIsNone(mirror_fault(Book(("a",), ((60,),)), 0, 0))

    def sides(self, ways, both, x):
        return served(ways, x), any(within(way, minus(both, x)) for way in ways)

    def test_many(self):
        told = [0, 0]
        for kinds, ways in all_small_books()[::2] + some_books(400, 60, kinds=3, ways=5, top=3):
            book = Book(kinds, ways)
            mirrors = True
            for one, other in itertools.product(range(len(ways)), repeat=2):
                both = plus(ways[one], ways[other])
                wrong = [x for x in boxes(both) if len(set(self.sides(ways, both, x))) > 1]
                found = mirror_fault(book, one, other)
                if wrong:
                    self.assertIn(found, wrong)
                    mirrors = False
                else:
                    self.assertIsNone(found)
            self.assertIs(mirrors, not stories(ways))
            told[mirrors] += 1
        self.assertGreater(min(told), 30)

    def test_wide(self):
        wide = Book(("a", "b", "c"), wide_ways(190))
        for one, other in ((0, 189), (7, 7), (100, 3)):
            self.assertIsNone(mirror_fault(wide, one, other))
        book = Book(("a", "b", "c", "d"), tuple(sorted([row + (0,) for row in wide_ways(190)] + [(0, 0, 0, 60)])))
        self.assertIsNone(mirror_fault(book, 0, 190))
        book = Book(("a", "b", "c", "d"), tuple(sorted([row + (0,) for row in wide_ways(190)] + [(0, 0, 1, 60)])))
        at = book.ways.index((0, 0, 1, 60))
        self.assertIsNone(mirror_fault(book, 1, 100))
        found = mirror_fault(book, at, 100)
        both = plus(book.ways[at], book.ways[100])
        self.assertTrue(within(found, both))
        self.assertEqual(len(set(self.sides(book.ways, both, found))), 2)

    def test_errors(self):
        wrong = [value for value in STRANGE if value.__class__ is not int or value < 0 or value > 2]
        for value in wrong + [3, "0", (0,), 0.0]:
            self.fault(InvalidNumber, "one", mirror_fault, ROAD, value, value)
            self.fault(InvalidNumber, "one", mirror_fault, ROAD, value, 1)
            self.fault(InvalidNumber, "other", mirror_fault, ROAD, 1, value)


class OneOfTheOther(Case):

    def pool(self, ways, story):
        s, t, u = story
        return tuple(map(max, ways[s], plus(ways[t], ways[u])))

    def test_examples(self):
        self.assertEqual(session_story_of(book=ROAD, story=(1, 0, 2)), (1, 0, 2))
        self.assertEqual(story_of_session(book=ROAD, story=(1, 0, 2)), (1, 0, 2))
        self.fault(Refused, "story", session_story_of, ROAD, (0, 1, 2))
        self.fault(Refused, "story", story_of_session, ROAD, (0, 1, 2))

    def check(self, kinds, ways):
        book = Book(kinds, ways)
        told, sessions = stories(ways), session_stories(ways)
        changed = 0
        for story in told:
            found = session_story_of(book, story)
            self.assertIn(found, sessions)
            demand = plus(ways[found[1]], ways[found[2]])
            self.assertTrue(within(plus(ways[story[1]], ways[story[2]]), demand))
            changed += found != story
        for story in sessions:
            found = story_of_session(book, story)
            self.assertIn(found, told)
            self.assertTrue(within(self.pool(ways, found), self.pool(ways, story)))
            changed += found != story
        for triple in itertools.product(range(len(ways)), repeat=3):
            if triple not in told:
                self.fault(Refused, "story", session_story_of, book, triple)
            if triple not in sessions:
                self.fault(Refused, "story", story_of_session, book, triple)
        return changed

    def test_many(self):
        changed = sum(self.check(*told) for told in all_small_books())
        changed += sum(self.check(*told) for told in some_books(401, 150, kinds=4, ways=5, top=3))
        self.assertGreater(changed, 200)

    def test_wide(self):
        rows = [row + (0,) for row in wide_ways(190)] + [(0, 0, 1, 60)]
        book = Book(("a", "b", "c", "d"), tuple(sorted(rows)))
        chance = random.Random(6)
        some = 0
        for _ in range(300):
            story = tuple(chance.choice((book.ways.index((0, 0, 1, 60)), chance.randrange(191))) for _ in range(3))
            if self.is_story(book, story):
                found = session_story_of(book, story)
                self.assertTrue(is_session_story(book, found))
                back = story_of_session(book, found)
                self.assertTrue(self.is_story(book, back))
                self.assertTrue(within(self.pool(book.ways, back), self.pool(book.ways, found)))
                some += 1
        self.assertGreater(some, 5)

    def is_story(self, book, story):
        rest = minus(self.pool(book.ways, story), book.ways[story[0]])
        return not any(within(way, rest) for way in book.ways)


if __name__ == "__main__":
    unittest.main()
