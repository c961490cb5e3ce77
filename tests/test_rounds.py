"""[38] Lengths of rounds."""

import itertools
import random
import unittest

from asmany.books import Book
from asmany.errors import InvalidNumber, InvalidPool, Refused
from asmany.rounds import count_rounds, round_lengths, round_of_length
from plain import STRANGE, Case, Stubborn, all_small_books, boxes, plus, rounds, some_books, within

ROAD = Book(("a", "b", "c", "d"), ((0, 0, 1, 1), (0, 1, 1, 0), (1, 1, 0, 0)))
ONE = Book(("a",), ((1,),))
GREAT = 10 ** 18


def fewest_ways(ways, demand, known):
    """The least number of ways, equal ones included, whose sum has the demand within it."""
    if not any(demand):
        return 0
    if demand not in known:
        rests = [tuple(max(x - y, 0) for x, y in zip(demand, way)) for way in ways]
        known[demand] = 1 + min(fewest_ways(ways, rest, known) for rest in rests if rest != demand)
    return known[demand]


class Rounds(Case):

    def test_examples(self):
        demand = (1, 1, 1, 1)
        self.assertEqual(round_lengths(ROAD, demand), (2, 3))
        self.assertEqual(round_lengths(book=ROAD, demand=demand, most=9), (2, 3))
        self.assertEqual(count_rounds(book=ROAD, demand=demand, most=2000), 4)
        self.assertEqual(round_of_length(ROAD, demand, 2), ((0, 0, 1, 1), (1, 1, 0, 0)))
        self.assertEqual(round_of_length(book=ROAD, demand=demand, length=3, most=2000),
                         ((0, 1, 1, 0), (0, 0, 0, 1), (1, 0, 0, 0)))
        for length in (0, 1, 4, 10 ** 30):
            self.assertIsNone(round_of_length(ROAD, demand, length))
        self.assertEqual(round_lengths(ROAD, (0, 0, 0, 0)), (0,))
        self.assertEqual(count_rounds(ROAD, (0, 0, 0, 0)), 1)
        self.assertEqual(round_of_length(ROAD, (0, 0, 0, 0), 0), ())
        self.assertEqual(round_of_length(Book(("a",), ((60,),)), (130,), 3), ((60,), (60,), (10,)))
        self.assertRaises(TypeError, round_lengths, ROAD, demand, 2000)

    def check(self, kinds, ways, demand, known, sums):
        book = Book(kinds, ways)
        found, count = rounds(ways, demand, known)
        lengths = tuple(sorted(found))
        self.assertEqual(round_lengths(book, demand), lengths)
        self.assertEqual(count_rounds(book, demand), count)
        for length in range(max(lengths) + 2):
            self.assertEqual(round_of_length(book, demand, length), found.get(length))
        # All numbers from the least to the greatest one.
        self.assertEqual(lengths, tuple(range(lengths[0], lengths[-1] + 1)))
        self.assertEqual(lengths[0], fewest_ways(ways, demand, sums))
        return len(lengths) > 1

    def test_all_small(self):
        uneven = 0
        for kinds, ways in all_small_books():
            known, sums = {}, {}
            for demand in boxes((3,) * len(kinds)):
                uneven += self.check(kinds, ways, demand, known, sums)
        self.assertGreater(uneven, 40)

    def test_many(self):
        chance = random.Random(38)
        uneven = 0
        for kinds, ways in some_books(380, 150, kinds=4, ways=6, top=3):
            known, sums = {}, {}
            for _ in range(6):
                demand = tuple(chance.randint(0, 4) for _ in kinds)
                uneven += self.check(kinds, ways, demand, known, sums)
        self.assertGreater(uneven, 100)

    def test_every_round(self):
        """The first round of a length, from a list of all of them."""
        for kinds, ways in some_books(381, 25, kinds=3, ways=4, top=2):
            book = Book(kinds, ways)
            demand = (2,) * len(kinds)
            found = {}
            for row in sorted(self.all_rounds(ways, demand)):
                found.setdefault(len(row), row)
            for length in range(8):
                self.assertEqual(round_of_length(book, demand, length), found.get(length))

    def all_rounds(self, ways, demand):
        if not any(demand):
            return [()]
        rows = []
        for row in boxes(demand):
            if any(row) and any(within(row, way) for way in ways):
                more = [one for one in boxes(demand) if one != row and within(row, one)]
                if not any(within(one, way) for one in more for way in ways):
                    rest = tuple(x - y for x, y in zip(demand, row))
                    rows.extend((row, *later) for later in self.all_rounds(ways, rest))
        return rows

    def demands_left(self, ways, demand):
        found, waiting = {demand}, [demand]
        while waiting:
            now = waiting.pop()
            rows = {tuple(map(min, now, way)) for way in ways}
            for row in rows:
                if any(row) and not any(one != row and within(row, one) for one in rows):
                    rest = tuple(x - y for x, y in zip(now, row))
                    if rest not in found:
                        found.add(rest)
                        waiting.append(rest)
        return len(found)

    def test_numbers_of_demands(self):
        calls = (round_lengths, count_rounds)
        for kinds, ways in some_books(382, 30, kinds=4, ways=6, top=3):
            demand = (4,) * len(kinds)
            book = Book(kinds, ways)
            number = self.demands_left(ways, demand)
            for call in calls:
                self.assertEqual(call(book, demand, most=number), call(book, demand, most=number + 1))
                if number > 1:
                    self.fault(Refused, "wide", call, book, demand, most=number - 1)
            length = round_lengths(book, demand)[0]
            self.assertIsNotNone(round_of_length(book, demand, length, most=number))
            if number > 1:
                self.fault(Refused, "wide", round_of_length, book, demand, length, most=number - 1)

    def test_limits_of_most(self):
        self.assertEqual(round_lengths(ONE, (1999,)), (1999,))
        self.fault(Refused, "wide", round_lengths, ONE, (2000,))
        self.assertEqual(round_lengths(ONE, (0,), most=1), (0,))
        self.fault(Refused, "wide", round_lengths, ONE, (1,), most=1)
        self.assertEqual(count_rounds(ONE, (99999,), most=100000), 1)
        self.fault(Refused, "wide", count_rounds, ONE, (100000,), most=100000)
        self.assertEqual(len(round_of_length(ONE, (99999,), 99999, most=100000)), 99999)
        self.fault(Refused, "wide", round_of_length, ONE, (GREAT,), 5, most=100000)
        book = Book(("a", "b"), ((0, 1), (1, 0)))
        self.assertEqual(count_rounds(book, (300, 300), most=100000), self.choose(600, 300))

    def choose(self, n, k):
        number = 1
        for at in range(k):
            number = number * (n - at) // (at + 1)
        return number

    def test_huge(self):
        ways = tuple(sorted(row for row in itertools.product(range(2), repeat=8) if sum(row) == 4))
        book = Book(tuple("abcdefgh"), ways)
        self.assertEqual(round_lengths(book, (4,) * 8, most=100000), (8, 9, 10, 11))
        found = round_of_length(book, (4,) * 8, 11, most=100000)
        self.assertEqual(len(found), 11)
        total = (0,) * 8
        for row in found:
            total = plus(total, row)
        self.assertEqual(total, (4,) * 8)
        self.fault(Refused, "wide", count_rounds, book, (GREAT,) * 8, most=100000)
        ways = tuple(sorted(row for row in itertools.product(range(20), repeat=3) if sum(row) == 18))
        book = Book(("a", "b", "c"), ways)
        self.assertEqual(round_lengths(book, (30, 30, 30)), (5,))
        self.assertEqual(round_lengths(Book(("a", "b"), ((60, 1),)), (60 * 999, 5)), (999,))

    def test_wrong_demands(self):
        for call, more in ((round_lengths, ()), (count_rounds, ()), (round_of_length, (None,))):
            for demand in STRANGE + ((1, 1, 1), [1] * 4, "abcd"):
                self.fault(InvalidPool, -1, call, ROAD, demand, *more, most=None)
            for item in STRANGE + (GREAT + 1,):
                self.fault(InvalidPool, 0, call, ROAD, (item,) * 4, *more, most=0)
                self.fault(InvalidPool, 2, call, ROAD, (0, GREAT, item, item), *more)

    def test_wrong_numbers(self):
        wrong = [value for value in STRANGE if value.__class__ is not int or value < 0]
        for value in wrong + [Stubborn(), "1", (1,), [1]]:
            self.fault(InvalidNumber, "length", round_of_length, ROAD, (GREAT,) * 4, value, most=None)
            self.fault(InvalidNumber, "length", round_of_length, ROAD, (GREAT,) * 4, value)
        for value in wrong + [0, 100001, 10 ** 30]:
            self.fault(InvalidNumber, "most", round_lengths, ROAD, (GREAT,) * 4, most=value)
            self.fault(InvalidNumber, "most", count_rounds, ROAD, (GREAT,) * 4, most=value)
            self.fault(InvalidNumber, "most", round_of_length, ROAD, (GREAT,) * 4, 10 ** 40, most=value)


if __name__ == "__main__":
    unittest.main()
