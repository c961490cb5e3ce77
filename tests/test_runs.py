"""[11] and [12]: pools and runs."""

import itertools
import unittest

from asmany.books import Book
from asmany.errors import InvalidPool, InvalidRun
from asmany.runs import check_pool, check_run, fitting, is_full, is_stuck, left
from plain import STRANGE, Case, Stubborn, boxes, full_runs, minus, some_books, within

STAR = Book(("a", "b", "c", "d"), ((0, 0, 1, 1), (0, 1, 0, 1), (1, 0, 0, 1), (1, 1, 1, 0)))
GREAT = 10 ** 18
WITH_POOL = (check_pool, fitting, is_stuck)
WITH_RUN = (check_run, left, is_full)


class Pools(Case):

    def test_pools(self):
        self.assertIsNone(check_pool(STAR, (0, 1, GREAT, 0)))
        self.assertIsNone(check_pool(book=STAR, value=(0, 0, 0, 0)))
        self.assertEqual(fitting(STAR, (1, 1, 0, 1)), (1, 2))
        self.assertEqual(fitting(book=STAR, pool=(GREAT,) * 4), (0, 1, 2, 3))
        self.assertEqual(fitting(STAR, (0, 0, 0, GREAT)), ())
        self.assertIs(is_stuck(STAR, (1, 1, 0, 1)), False)
        self.assertIs(is_stuck(book=STAR, pool=(1, 1, 0, 0)), True)

    def test_wrong_pools(self):
        wrong = STRANGE + ((1, 1, 1), (1,) * 5, [1] * 4, "abcd", {0: 0, 1: 0, 2: 0, 3: 0}, 4)
        for value in wrong:
            for call in WITH_POOL:
                self.fault(InvalidPool, -1, call, STAR, value)
            for call in WITH_RUN:
                self.fault(InvalidPool, -1, call, STAR, value, None)
        for item in STRANGE + (GREAT + 1, "1", 0.0):
            for call in WITH_POOL:
                self.fault(InvalidPool, 0, call, STAR, (item, 1, item, 1))
                self.fault(InvalidPool, 2, call, STAR, (0, GREAT, item, item))
            for call in WITH_RUN:
                self.fault(InvalidPool, 3, call, STAR, (0, GREAT, 0, item), [])

    def test_many(self):
        for kinds, ways in some_books(20, 40):
            book = Book(kinds, ways)
            for pool in boxes((3,) * len(kinds)):
                numbers = tuple(at for at, way in enumerate(ways) if within(way, pool))
                self.assertEqual(fitting(book, pool), numbers)
                self.assertIs(is_stuck(book, pool), not numbers)


class Runs(Case):

    def test_runs(self):
        pool = (1, 1, 1, 3)
        for run, rest, full in (
            ((), (1, 1, 1, 3), False),
            ((3,), (0, 0, 0, 3), True),
            ((0, 1), (1, 0, 0, 1), False),
            ((0, 1, 2), (0, 0, 0, 0), True),
        ):
            self.assertIsNone(check_run(STAR, pool, run))
            self.assertEqual(left(STAR, pool, run), rest)
            self.assertIs(is_full(STAR, pool, run), full)
        self.assertIsNone(check_run(book=STAR, pool=pool, run=()))
        self.assertEqual(left(book=STAR, pool=pool, run=(3,)), (0, 0, 0, 3))
        self.assertIs(is_full(book=STAR, pool=pool, run=(3,)), True)
        self.assertIs(is_full(STAR, (0, 0, 0, 9), ()), True)

    def test_wrong_runs(self):
        pool = (2, 2, 2, 2)
        for call in WITH_RUN:
            for value in (None, True, "", "a", [], [0], {}, {0: 1}, 3, range(0), Stubborn(), b""):
                self.fault(InvalidRun, -1, call, STAR, pool, value)
            for item in STRANGE + (4, -1, "0", 0.0, (0,), [0]):
                self.fault(InvalidRun, 0, call, STAR, pool, (item, 0))
                self.fault(InvalidRun, 1, call, STAR, pool, (3, item, item))
                self.fault(InvalidRun, 2, call, STAR, (9, 9, 9, 9), (3, 0, item, 0))
            self.fault(InvalidRun, 2, call, STAR, (1, 1, 1, 2), (0, 1, 2))
            self.fault(InvalidRun, 1, call, STAR, (1, 1, 1, 3), (3, 0))
            self.fault(InvalidRun, 1, call, STAR, (1, 1, 1, 3), (3, 0, None))
            self.fault(InvalidRun, 0, call, STAR, (0, 0, 0, 3), (0,))

    def test_great(self):
        book = Book(("a",), ((1,),))
        self.assertEqual(left(book, (GREAT,), (0,) * 3000), (GREAT - 3000,))
        self.assertIs(is_full(book, (3000,), (0,) * 3000), True)
        self.fault(InvalidRun, 3000, check_run, book, (3000,), (0,) * 3001)
        book = Book(tuple("abcdefgh"), ((60,) * 8,))
        self.assertEqual(left(book, (GREAT,) * 8, (0, 0)), (GREAT - 120,) * 8)

    def test_many(self):
        for kinds, ways in some_books(21, 25, kinds=3, ways=3):
            book = Book(kinds, ways)
            for pool in boxes((3,) * len(kinds)):
                for run in full_runs(ways, pool):
                    self.assertIs(is_full(book, pool, run), True)
                    for size in range(len(run)):
                        self.assertIs(is_full(book, pool, run[:size]), False)
                    rest = pool
                    for number in run:
                        rest = minus(rest, ways[number])
                    self.assertEqual(left(book, pool, run), rest)

    def test_any_sequence(self):
        for kinds, ways in some_books(22, 12, kinds=3, ways=3):
            book, pool = Book(kinds, ways), (4,) * len(kinds)
            for run in full_runs(ways, pool)[:20]:
                rests = {left(book, pool, other) for other in itertools.permutations(run[:5])}
                self.assertEqual(rests, {left(book, pool, run[:5])})


if __name__ == "__main__":
    unittest.main()
