"""[13], [14], [15], [16]: lengths, shortest and longest runs, runs counted, split pools."""

import itertools
import random
import unittest

from asmany.books import Book
from asmany.errors import InvalidNumber, InvalidPool, InvalidRun, Refused
from asmany.rows import count_runs, longest_run, place_of_run, run_at, run_lengths, run_of_length
from asmany.rows import shortest_run, span, split_pools
from asmany.runs import is_full
from plain import STRANGE, Case, Stubborn, all_small_books, boxes, full_runs, lengths, least, minus
from plain import some_books, stories, within

STAR = Book(("a", "b", "c", "d"), ((0, 0, 1, 1), (0, 1, 0, 1), (1, 0, 0, 1), (1, 1, 1, 0)))
ONE = Book(("a",), ((1,),))
GREAT = 10 ** 18
EIGHT = tuple("abcdefgh")


def pools_left(ways, pool):
    """All pools that runs from a pool leave."""
    found, waiting = {pool}, [pool]
    while waiting:
        rest = waiting.pop()
        for way in ways:
            if within(way, rest) and minus(rest, way) not in found:
                found.add(minus(rest, way))
                waiting.append(minus(rest, way))
    return found


def calls(book, pool, run=()):
    """All functions that refuse too many pools, ready to be called with `most` alone."""
    return (
        lambda **more: run_lengths(book, pool, **more),
        lambda **more: run_of_length(book, pool, 0, **more),
        lambda **more: run_of_length(book, pool, 10 ** 30, **more),
        lambda **more: shortest_run(book, pool, **more),
        lambda **more: longest_run(book, pool, **more),
        lambda **more: count_runs(book, pool, **more),
        lambda **more: run_at(book, pool, 0, **more),
        lambda **more: place_of_run(book, pool, run, **more),
    )


class Lengths(Case):

    def test_examples(self):
        self.assertEqual(span(STAR), 3)
        self.assertEqual(run_lengths(STAR, (1, 1, 1, 3)), (1, 3))
        self.assertEqual(span(book=ONE), 1)
        self.assertEqual(run_lengths(book=STAR, pool=(0, 0, 0, GREAT), most=1), (0,))
        self.assertEqual(span(Book(("a", "b"), ((1, 5), (3, 2), (7, 1)))), 8)
        self.assertEqual(span(Book(("a", "b"), ((2, 60), (3, 0)))), 2)
        self.assertEqual(span(Book(EIGHT, ((60,) * 8,))), 8)
        self.assertEqual(shortest_run(STAR, (1, 1, 1, 3)), (3,))
        self.assertEqual(longest_run(STAR, (1, 1, 1, 3)), (0, 1, 2))
        self.assertEqual(shortest_run(book=STAR, pool=(1, 1, 1, 3), most=9), (3,))
        self.assertEqual(longest_run(book=STAR, pool=(1, 1, 1, 3), most=9), (0, 1, 2))
        self.assertEqual(run_of_length(book=STAR, pool=(1, 1, 1, 3), length=3, most=9), (0, 1, 2))
        self.assertIsNone(run_of_length(STAR, (1, 1, 1, 3), 2))

    def test_span_of_eight(self):
        book = Book(EIGHT, tuple(sorted([(59,) + (1,) * 7, (1,) + (60,) * 7])))
        self.assertEqual(span(book), 1 + 7 * 60)

    def test_runs_of_all_lengths(self):
        for kinds, ways, pool in self.some_pools():
            book = Book(kinds, ways)
            found = run_lengths(book, pool, most=100000)
            self.assertEqual(found, lengths(ways, pool))
            runs = full_runs(ways, pool)
            for length in range(found[-1] + 2):
                fine = [run for run in runs if len(run) == length]
                run = run_of_length(book, pool, length)
                self.assertEqual(run, fine[0] if fine else None)
                if fine:
                    self.assertEqual(run, tuple(sorted(run)))
            self.assertEqual(shortest_run(book, pool), run_of_length(book, pool, found[0]))
            self.assertEqual(longest_run(book, pool), run_of_length(book, pool, found[-1]))
            self.assertIsNone(run_of_length(book, pool, GREAT))

    def test_counts_and_places(self):
        for kinds, ways, pool in self.some_pools():
            book = Book(kinds, ways)
            runs = full_runs(ways, pool)
            self.assertEqual(count_runs(book, pool), len(runs))
            for number, run in list(enumerate(runs))[:40] + [(len(runs) - 1, runs[-1])]:
                self.assertEqual(run_at(book, pool, number), run)
                self.assertEqual(place_of_run(book, pool, run), number)
                if run:
                    self.assertIsNone(place_of_run(book, pool, run[:-1]))
            for number in (len(runs), len(runs) + 1, 10 ** 30):
                self.fault(InvalidNumber, "number", run_at, book, pool, number)

    def some_pools(self):
        chance = random.Random(2)
        for kinds, ways in some_books(100, 120, kinds=4, ways=5, top=3):
            for _ in range(3):
                yield kinds, ways, tuple(chance.randint(0, 5) for _ in kinds)

    def test_steps_between_lengths(self):
        wide = 0
        for kinds, ways in all_small_books() + some_books(101, 80, kinds=3, ways=5, top=3):
            book = Book(kinds, ways)
            most = span(book)
            for pool in boxes((5, 4, 4)[:len(kinds)]):
                found = run_lengths(book, pool)
                for one, other in zip(found, found[1:]):
                    self.assertLess(other - one, most)
                self.assertLessEqual(found[-1], most * found[0])
                if most <= 2:
                    self.assertEqual(found, tuple(range(found[0], found[-1] + 1)))
                if most == 1:
                    self.assertEqual(len(found), 1)
                wide += len(found) > 2
        self.assertGreater(wide, 50)

    def test_example_of_counts(self):
        self.assertEqual(count_runs(STAR, (1, 1, 1, 3)), 7)
        self.assertEqual(run_at(STAR, (1, 1, 1, 3), 5), (2, 1, 0))
        self.assertEqual(count_runs(book=STAR, pool=(1, 1, 1, 3), most=9), 7)
        self.assertEqual(run_at(book=STAR, pool=(1, 1, 1, 3), number=6, most=9), (3,))
        self.assertEqual(place_of_run(book=STAR, pool=(1, 1, 1, 3), run=(3,), most=9), 6)
        self.assertEqual(run_at(STAR, (0, 0, 0, 0), 0), ())
        self.assertEqual(place_of_run(STAR, (0, 0, 0, 0), ()), 0)

    def test_great_pools(self):
        book = Book(("a", "b", "c"), ((0, 1, 1), (1, 0, 1), (1, 1, 0)))
        pool = (GREAT, GREAT, 0)
        self.fault(Refused, "wide", run_lengths, book, pool)
        pool = (GREAT, 3, 4)
        self.assertEqual(run_lengths(book, pool), (4, 5, 6, 7))
        self.assertEqual(len(full_runs(book.ways, (9, 3, 4))), count_runs(book, pool))
        for amount in (9, 2 ** 30 + 1, 2 ** 31, 2 ** 53 + 1, 2 ** 59 - 1, 2 ** 59 + 1, GREAT - 1):
            self.assertEqual(run_lengths(book, (amount, 3, 4)), (4, 5, 6, 7))
            self.assertEqual(run_lengths(book, (3, amount, 4)), (4, 5, 6, 7))
            self.assertEqual(run_lengths(book, (4, 3, amount)), (4, 5, 6, 7))
        run = longest_run(book, pool)
        self.assertIs(is_full(book, pool, run), True)
        self.assertEqual(run_at(book, pool, place_of_run(book, pool, run)), run)


class Limits(Case):

    def test_two_thousand(self):
        run = (0,) * 1999
        self.assertEqual(run_lengths(ONE, (1999,)), (1999,))
        self.assertEqual(run_of_length(ONE, (1999,), 1999), run)
        self.assertIsNone(run_of_length(ONE, (1999,), 1998))
        self.assertEqual((shortest_run(ONE, (1999,)), longest_run(ONE, (1999,))), (run, run))
        self.assertEqual((count_runs(ONE, (1999,)), run_at(ONE, (1999,), 0)), (1, run))
        self.assertEqual(place_of_run(ONE, (1999,), run), 0)
        for call in calls(ONE, (2000,), run + (0,)) + calls(ONE, (2000,), ()) + calls(ONE, (GREAT,)):
            self.fault(Refused, "wide", call)
        for call in calls(ONE, (2000,), run + (0,)):
            call(most=2001)

    def test_hundred_thousand(self):
        number = 99999
        self.assertEqual(run_lengths(ONE, (number,), most=100000), (number,))
        self.assertEqual(len(shortest_run(ONE, (number,), most=100000)), number)
        self.assertEqual(place_of_run(ONE, (number,), (0,) * number, most=100000), 0)
        for call in calls(ONE, (number + 1,)):
            self.fault(Refused, "wide", call, most=100000)
        ways = tuple(row for row in boxes((6,) * 4) if sum(row) == 6)
        book = Book(("a", "b", "c", "d"), ways)
        self.assertEqual(run_lengths(book, (11,) * 4, most=100000), (7,))
        half = count_runs(book, (11,) * 4, most=100000) // 2
        self.assertEqual(len(run_at(book, (11,) * 4, half, most=100000)), 7)

    def test_most_one_below_and_above(self):
        for kinds, ways in some_books(102, 40, kinds=3, ways=4):
            book, pool = Book(kinds, ways), (4,) * len(kinds)
            count = len(pools_left(ways, pool))
            run = full_runs(ways, pool)[0]
            for call in calls(book, pool, run):
                call(most=count)
                call(most=count + 1)
                if count > 1:
                    self.fault(Refused, "wide", call, most=count - 1)
        for call in calls(STAR, (0, 0, 0, 0)):
            call(most=1)

    def test_many_ways_and_kinds(self):
        ways = tuple(row for row in boxes((3,) * 8) if sum(row) == 3)
        book = Book(EIGHT, ways)
        self.assertEqual(run_lengths(book, (2,) * 8, most=100000), (5,))
        ways = tuple((x, y, 60 - x - y) for x in range(20) for y in range(20))[:200]
        book = Book(EIGHT[:3], ways)
        found = run_lengths(book, (60, 60, 150), most=100000)
        run = shortest_run(book, (60, 60, 150), most=100000)
        self.assertEqual((len(run), is_full(book, (60, 60, 150), run)), (found[0], True))


class Wrong(Case):

    def test_most(self):
        for most in STRANGE + (0, 100001, "5", 2.0, (5,), [5]):
            for call in calls(STAR, (1, 1, 1, 3)):
                self.fault(InvalidNumber, "most", call, most=most)
            for call in calls(ONE, (GREAT,)):
                self.fault(InvalidNumber, "most", call, most=most)
        for call in (run_lengths, shortest_run, longest_run, count_runs):
            self.assertRaises(TypeError, call, STAR, (1, 1, 1, 3), 2000)

    def test_numbers(self):
        wrong = [value for value in STRANGE if value.__class__ is not int or value < 0]
        for value in wrong + ["0", 0.0, (0,), [0]]:
            self.fault(InvalidNumber, "length", run_of_length, STAR, (1, 1, 1, 3), value, most=None)
            self.fault(InvalidNumber, "length", run_of_length, ONE, (GREAT,), value)
            self.fault(InvalidNumber, "number", run_at, STAR, (1, 1, 1, 3), value, most=None)
            self.fault(InvalidNumber, "number", run_at, ONE, (GREAT,), value)
        self.fault(Refused, "wide", run_at, ONE, (GREAT,), 10 ** 30)
        self.fault(InvalidNumber, "most", run_at, ONE, (GREAT,), 10 ** 30, most=0)
        self.fault(InvalidNumber, "number", run_at, STAR, (1, 1, 1, 3), 7)

    def test_pools(self):
        for pool in STRANGE + ((1, 1, 1), [1] * 4):
            for call in (run_lengths, shortest_run, longest_run, count_runs):
                self.fault(InvalidPool, -1, call, STAR, pool, most=None)
            for call in (run_of_length, run_at, place_of_run):
                self.fault(InvalidPool, -1, call, STAR, pool, None, most=None)
        for item in STRANGE + (GREAT + 1,):
            for call in (run_lengths, shortest_run, longest_run, count_runs):
                self.fault(InvalidPool, 1, call, STAR, (GREAT, item, item, 0), most=0)
            for call in (run_of_length, run_at, place_of_run):
                self.fault(InvalidPool, 3, call, STAR, (GREAT, 0, 0, item), None)

    def test_runs(self):
        pool = (1, 1, 1, 3)
        for run in (None, True, [0], "0", {0: 0}, 0, Stubborn()):
            self.fault(InvalidRun, -1, place_of_run, STAR, pool, run, most=None)
            self.fault(InvalidRun, -1, place_of_run, ONE, (GREAT,), run)
        for item in STRANGE + (4, -1):
            self.fault(InvalidRun, 1, place_of_run, STAR, pool, (0, item), most=None)
        self.fault(InvalidRun, 1, place_of_run, STAR, pool, (3, 3))
        self.assertIsNone(place_of_run(STAR, pool, ()))
        self.assertIsNone(place_of_run(STAR, pool, (2, 1)))


class SplitPools(Case):

    def test_examples(self):
        self.assertEqual(split_pools(STAR), ((1, 1, 1, 2), (1, 1, 2, 1), (1, 2, 1, 1), (2, 1, 1, 1)))
        self.assertEqual(split_pools(book=ONE), ())
        self.assertEqual(split_pools(Book(EIGHT, ((1,) * 8,))), ())

    def test_wide(self):
        for number in (16, 17):
            ways = tuple((x, number - 1 - x) for x in range(number))
            if number == 17:
                self.fault(Refused, "wide", split_pools, Book(("a", "b"), ways))
            else:
                self.assertEqual(split_pools(Book(("a", "b"), ways)), ())
                uneven = split_pools(Book(("a", "b"), ways[:7] + ways[8:]))
                self.assertTrue(uneven)

    def test_by_the_definition(self):
        uneven = 0
        for kinds, ways in all_small_books() + some_books(103, 60, kinds=3, ways=4, top=2):
            known = {}
            tops = [2 * max(way[k] for way in ways) + 1 for k in range(len(kinds))]
            if max(tops) > 5 and len(kinds) > 2:
                continue
            found = [pool for pool in boxes(tops) if len(lengths(ways, pool, known)) > 1]
            told = split_pools(Book(kinds, ways))
            self.assertEqual(told, least(found))
            of_stories = [
                tuple(max(x, y + z) for x, y, z in zip(ways[s], ways[t], ways[u])) for s, t, u in stories(ways)
            ]
            for pool in told:
                self.assertEqual(lengths(ways, pool, known), (1, 2))
                self.assertIn(pool, of_stories)
            for pool in of_stories:
                self.assertTrue(any(within(one, pool) for one in told))
            uneven += bool(told)
        self.assertGreater(uneven, 30)

    def test_sixteen_ways(self):
        rows = list(itertools.islice((row for row in boxes((4,) * 4) if sum(row) == 4 and 0 in row), 16))
        book = Book(EIGHT[:4], tuple(rows))
        for pool in split_pools(book)[:5]:
            self.assertEqual(lengths(book.ways, pool), (1, 2))


if __name__ == "__main__":
    unittest.main()
