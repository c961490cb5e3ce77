"""[37] Sessions and rounds."""

import random
import unittest

from asmany.books import Book
from asmany.errors import InvalidPool, InvalidRun
from asmany.sessions import sessions_of, unserved
from plain import STRANGE, Case, Stubborn, boxes, minus, plain_sessions, some_books

ROAD = Book(("a", "b", "c", "d"), ((0, 0, 1, 1), (0, 1, 1, 0), (1, 1, 0, 0)))
GREAT = 10 ** 18


class Sessions(Case):

    def test_examples(self):
        self.assertEqual(sessions_of(ROAD, (1, 1, 1, 1)), ROAD.ways)
        self.assertEqual(sessions_of(ROAD, (1, 0, 1, 1)), ((0, 0, 1, 1), (1, 0, 0, 0)))
        self.assertEqual(sessions_of(book=ROAD, demand=(0, 5, 0, 0)), ((0, 1, 0, 0),))
        self.assertEqual(sessions_of(ROAD, (0, 0, 0, 0)), ())
        self.assertEqual(sessions_of(ROAD, (GREAT,) * 4), ROAD.ways)
        self.assertEqual(sessions_of(Book(("a",), ((60,),)), (7,)), ((7,),))
        self.assertEqual(unserved(ROAD, (1, 1, 1, 1), ((0, 1, 1, 0), (1, 0, 0, 0))), (0, 0, 0, 1))
        self.assertEqual(unserved(book=ROAD, demand=(1, 1, 1, 1), value=()), (1, 1, 1, 1))
        self.assertEqual(unserved(ROAD, (0, 0, 0, 0), ()), (0, 0, 0, 0))

    def test_many(self):
        for kinds, ways in some_books(110, 60, kinds=3, ways=5, top=3):
            book = Book(kinds, ways)
            for demand in boxes((4,) * len(kinds)):
                found = plain_sessions(ways, demand)
                self.assertEqual(sessions_of(book, demand), found)
                self.assertIs(found == (), not any(demand))

    def test_rounds(self):
        chance = random.Random(3)
        for kinds, ways in some_books(111, 40, kinds=3, ways=5, top=3):
            book = Book(kinds, ways)
            for _ in range(5):
                demand = rest = tuple(chance.randint(0, 7) for _ in kinds)
                value = []
                while any(rest):
                    self.assertEqual(unserved(book, demand, tuple(value)), rest)
                    found = plain_sessions(ways, rest)
                    self.check_next(book, demand, value, rest, found)
                    value.append(chance.choice(found))
                    rest = minus(rest, value[-1])
                self.assertEqual(unserved(book, demand, tuple(value)), (0,) * len(kinds))
                self.fault(InvalidRun, len(value), unserved, book, demand, (*value, (0,) * len(kinds)))

    def check_next(self, book, demand, value, rest, found):
        for row in boxes([min(most + 1, 3) for most in rest]):
            if row not in found:
                self.fault(InvalidRun, len(value), unserved, book, demand, (*value, row, None))
            else:
                self.assertEqual(unserved(book, demand, (*value, row)), minus(rest, row))

    def test_long_round(self):
        ways = tuple((x, y, 60 - x - y) for x in range(20) for y in range(20))[:200]
        book = Book(("a", "b", "c"), ways)
        value = ((0, 0, 60),) * 3000
        self.assertEqual(unserved(book, (0, 0, GREAT), value), (0, 0, GREAT - 180000))
        self.assertEqual(len(sessions_of(book, (GREAT,) * 3)), 200)

    def test_wrong_rounds(self):
        demand = (1, 1, 1, 1)
        for value in (None, True, [(0, 1, 1, 0)], "a", {(0, 1, 1, 0): 1}, 3, Stubborn()):
            self.fault(InvalidRun, -1, unserved, ROAD, demand, value)
        wrong = STRANGE + ([0, 1, 1, 0], (0, 1, 1), (0, 1, 1, 0, 0), (0, True, 1, 0), (0, 1.0, 1, 0), (0, "1", 1, 0),
                           (0, 0, 0, 0), (0, 1, 0, 0), (0, 1, 1, 1), (0, 2, 0, 0), (0, -1, 1, 1), (0, None, 1, 0))
        for item in wrong:
            self.fault(InvalidRun, 0, unserved, ROAD, demand, (item, item))
            self.fault(InvalidRun, 1, unserved, ROAD, demand, ((0, 1, 1, 0), item, None))

    def test_wrong_demands(self):
        for demand in STRANGE + ((1, 1, 1), [1] * 4, "abcd"):
            self.fault(InvalidPool, -1, sessions_of, ROAD, demand)
            self.fault(InvalidPool, -1, unserved, ROAD, demand, None)
        for item in STRANGE + (GREAT + 1,):
            self.fault(InvalidPool, 0, sessions_of, ROAD, (item,) * 4)
            self.fault(InvalidPool, 2, unserved, ROAD, (0, GREAT, item, item), None)


if __name__ == "__main__":
    unittest.main()
