"""[25] and [26]: exchanges, and stories between two runs."""

import itertools
import random
import unittest

from asmany.books import Book
from asmany.errors import InvalidNumber, InvalidPool, InvalidRun, Refused
from asmany.exchanges import partner, story_between, unpaired_story
from asmany.runs import is_full
from asmany.stories import is_story, story_pool
from plain import STRANGE, Case, Stubborn, boxes, full_runs, minus, plus, some_books, stories, within

ROAD = Book(("a", "b", "c", "d"), ((0, 0, 1, 1), (0, 1, 1, 0), (1, 1, 0, 0)))
STAR = Book(("a", "b", "c", "d"), ((0, 0, 1, 1), (0, 1, 0, 1), (1, 0, 0, 1), (1, 1, 1, 0)))


class Exchanges(Case):

    def test_examples(self):
        book = Book(("a", "b"), ((0, 2), (1, 1), (2, 0)))
        self.assertEqual(partner(book, 1, 0, 2), 1)
        self.assertEqual(partner(book=book, way=0, one=1, other=1), 2)
        self.assertEqual(partner(book, 2, 2, 0), 0)
        self.assertIsNone(unpaired_story(book, 1, 0, 2))
        self.assertIsNone(partner(ROAD, 1, 0, 2))
        self.assertEqual(unpaired_story(book=ROAD, way=1, one=0, other=2), (1, 0, 2))

    def test_many(self):
        counts = {"partner": 0, "stuck": 0, "fitting": 0, "apart": 0}
        for kinds, ways in some_books(60, 150, kinds=4, ways=6, top=3):
            book, even = Book(kinds, ways), not stories(ways)
            for way, one, other in itertools.product(range(len(ways)), repeat=3):
                both = plus(ways[one], ways[other])
                if not within(ways[way], both):
                    self.fault(Refused, "apart", partner, book, way, one, other)
                    self.fault(Refused, "apart", unpaired_story, book, way, one, other)
                    counts["apart"] += 1
                    continue
                rest = minus(both, ways[way])
                number = ways.index(rest) if rest in ways else None
                self.assertEqual(partner(book, way, one, other), number)
                story = unpaired_story(book, way, one, other)
                if number is not None:
                    self.assertIsNone(story)
                    counts["partner"] += 1
                else:
                    self.assertFalse(even)
                    self.assertIs(is_story(book, story), True)
                    self.assertTrue(within(story_pool(book, story), both))
                    fits = any(within(row, rest) for row in ways)
                    counts["fitting" if fits else "stuck"] += 1
        self.assertGreater(min(counts.values()), 20, counts)

    def test_wrong_numbers(self):
        for call in (partner, unpaired_story):
            for number in STRANGE + (3, -1, "0", 0.0, (0,), [0], Stubborn()):
                self.fault(InvalidNumber, "way", call, ROAD, number, number, number)
                self.fault(InvalidNumber, "one", call, ROAD, 0, number, number)
                self.fault(InvalidNumber, "other", call, ROAD, 0, 1, number)
                self.fault(InvalidNumber, "other", call, ROAD, 0, 2, number)
            self.fault(Refused, "apart", call, ROAD, 0, 2, 2)


class Between(Case):

    def check_pair(self, book, pool, run, other):
        for pair in ((run, other), (other, run)):
            story = story_between(book, pool, *pair)
            self.assertEqual((story.__class__, len(story)), (tuple, 3))
            self.assertIs(is_story(book, story), True)
            self.assertTrue(within(story_pool(book, story), pool))

    def test_examples(self):
        self.assertEqual(story_between(ROAD, (1, 1, 1, 1), (1,), (0, 2)), (1, 0, 2))
        self.check_pair(ROAD, (1, 1, 1, 1), (1,), (0, 2))
        self.check_pair(STAR, (1, 1, 1, 3), (3,), (0, 1, 2))
        story = story_between(other=(0, 2, 0, 2), run=(1, 1), pool=(2, 2, 2, 2), book=ROAD)
        self.assertIs(is_story(ROAD, story), True)

    def test_many(self):
        chance = random.Random(6)
        count = 0
        for kinds, ways in some_books(61, 200, kinds=4, ways=5, top=3):
            if not stories(ways):
                continue
            book = Book(kinds, ways)
            for _ in range(6):
                pool = tuple(chance.randint(0, 5) for _ in kinds)
                runs = full_runs(ways, pool)
                runs = chance.sample(runs, min(len(runs), 12))
                for run, other in itertools.combinations(runs, 2):
                    if len(run) != len(other):
                        self.check_pair(book, pool, run, other)
                        count += 1
        self.assertGreater(count, 300)

    def test_long_runs(self):
        chance = random.Random(7)
        for kinds, ways in some_books(62, 60, kinds=4, ways=6, top=2):
            book = Book(kinds, ways)
            pool = tuple(chance.randint(300, 700) for _ in kinds)
            found = {}
            for _ in range(12):
                run, rest = [], pool
                order = chance.sample(range(len(ways)), len(ways))
                for number in order:
                    while within(ways[number], rest):
                        run.append(number)
                        rest = minus(rest, ways[number])
                found[len(run)] = tuple(run)
            for one, other in itertools.combinations(found.values(), 2):
                self.check_pair(book, pool, one, other)

    def test_two_thousand(self):
        number = 2000
        self.check_pair(ROAD, (number,) * 4, (1,) * number, (0, 2) * number)
        pool = (10 ** 18, number, number, 10 ** 18)
        self.check_pair(ROAD, pool, (1,) * number, (0,) * number + (2,) * number)
        self.check_pair(ROAD, pool, (1,) * number, (0, 2) + (1,) * (number - 1))

    def test_pool_of_a_story_within(self):
        for kinds, ways in some_books(63, 25, kinds=3, ways=4):
            pools = [
                tuple(max(x, y + z) for x, y, z in zip(ways[s], ways[t], ways[u])) for s, t, u in stories(ways)
            ]
            for pool in boxes((4,) * len(kinds)):
                if len(set(map(len, full_runs(ways, pool)))) > 1:
                    self.assertTrue(any(within(one, pool) for one in pools))

    def test_errors(self):
        pool = (1, 1, 1, 1)
        for wrong in STRANGE + ((1, 1, 1), [1] * 4):
            self.fault(InvalidPool, -1, story_between, ROAD, wrong, None, None)
        self.fault(InvalidPool, 2, story_between, ROAD, (1, 1, -1, True), None, None)
        for wrong in (None, True, [1], "1", {1: 1}, 1, Stubborn()):
            self.fault(InvalidRun, -1, story_between, ROAD, pool, wrong, wrong)
            self.fault(InvalidRun, -1, story_between, ROAD, pool, (), wrong)
        for item in STRANGE + (3, -1):
            self.fault(InvalidRun, 0, story_between, ROAD, pool, (item,), None)
            self.fault(InvalidRun, 1, story_between, ROAD, pool, (0,), (0, item))
            self.fault(InvalidRun, 1, story_between, ROAD, pool, (1,), (0, item))
        self.fault(InvalidRun, 1, story_between, ROAD, pool, (0, 0), (1,))
        self.fault(Refused, "open", story_between, ROAD, pool, (0,), (1,))
        self.fault(Refused, "open", story_between, ROAD, pool, (1,), (2,))
        self.fault(Refused, "open", story_between, ROAD, pool, (0,), (0,))
        self.fault(Refused, "open", story_between, ROAD, pool, (), (0, 2))
        self.fault(Refused, "alike", story_between, ROAD, pool, (1,), (1,))
        self.fault(Refused, "alike", story_between, ROAD, pool, (2, 0), (0, 2))
        self.fault(Refused, "alike", story_between, ROAD, (9, 0, 0, 9), (), ())
        self.assertTrue(is_full(ROAD, (9, 0, 0, 9), ()))


if __name__ == "__main__":
    unittest.main()
