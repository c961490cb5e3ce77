"""[67] and [68]: boats, trips, even boats, splits."""

import itertools
import random
import unittest

from asmany.boats import Boat, fills, is_even_boat, is_split, is_trip, spare, split_of, trips
from asmany.errors import InvalidNumber, InvalidPool, Refused
from plain import STRANGE, Case, Stubborn, boxes, minus, plus, strange_but, within

GREAT = 10 ** 18
EIGHT = tuple("abcdefgh")


def room_of(boat, load):
    return sum(amount * size for amount, size in zip(load, boat.sizes))


def plain_trips(boat, crowd):
    """All trips of a crowd by the definition."""
    found = []
    for load in boxes(crowd):
        free = boat.room - room_of(boat, load)
        if any(load) and free >= 0:
            rest = minus(crowd, load)
            if all(size > free for size, there in zip(boat.sizes, rest) if there):
                found.append(load)
    return found


def round_lengths(boat, crowd, known):
    """The lengths of all complete rounds of trips."""
    if crowd not in known:
        found = set()
        for load in plain_trips(boat, crowd):
            found.update(more + 1 for more in round_lengths(boat, minus(crowd, load), known))
        known[crowd] = found or {0}
    return known[crowd]


def some_boats(most):
    """All boats with one or two kinds and so much room, and some with three."""
    for room in range(1, most + 1):
        for one in range(1, room + 1):
            yield Boat(("a",), (one,), room)
            for other in range(1, room + 1):
                yield Boat(("a", "b"), (one, other), room)
    chance = random.Random(3)
    for _ in range(120):
        room = chance.randint(3, most)
        yield Boat(("a", "b", "c"), tuple(chance.randint(1, room) for _ in range(3)), room)


def divide(one, other):
    return one % other == 0 or other % one == 0


class Boats(Case):

    def test_attributes(self):
        for boat in (Boat(("a", "b"), (2, 5), 9), Boat(room=9, sizes=(2, 5), kinds=("a", "b"))):
            self.assertEqual((boat.kinds, boat.sizes, boat.room), (("a", "b"), (2, 5), 9))
        self.assertEqual(fills(Boat(EIGHT, (10 ** 9,) * 8, 10 ** 9)), (1,) * 8)
        self.assertEqual(fills(boat=Boat(("a", "b", "c"), (1, 4, 9), 9)), (9, 2, 1))

    def test_wrong_boats(self):
        nine = tuple("abcdefghi")
        for kinds in strange_but(1) + ((None,), (Stubborn(),), nine, ("b", "a"), ("a", "a"), ("A",), ("aaaaaa",),
                ["a"], "a", ("a", 1)):
            self.fault(Refused, "kinds", Boat, kinds, (1,), 1)
            self.fault(Refused, "kinds", Boat, kinds, None, None)
        for room in STRANGE + (0, 10 ** 9 + 1, "1", (1,), 2.0):
            self.fault(InvalidNumber, "room", Boat, ("a",), (1,), room)
            self.fault(InvalidNumber, "room", Boat, ("a",), None, room)
        for sizes in STRANGE + ((0,), (6,), (1, 1), [1], "1", {0: 1}, ("1",), (Stubborn(),), 1):
            self.fault(Refused, "sizes", Boat, ("a",), sizes, 5)
        for sizes in ((1, 6), (0, 1), (1, 0), (1, True), (1,), (1, 1, 1), (1, None)):
            self.fault(Refused, "sizes", Boat, ("a", "b"), sizes, 5)

    def test_trips(self):
        boat = Boat(("a", "b"), (2, 3), 7)
        self.assertEqual([load for load in boxes((4, 4)) if is_trip(boat, (4, 4), load)],
                         [(0, 2), (2, 1), (3, 0)])
        self.assertIs(is_trip(boat=boat, crowd=(1, 1), value=(1, 1)), True)
        self.assertIs(is_trip(boat, (1, 1), (0, 1)), False)
        self.assertIs(is_trip(boat, (1, 1), (1, 2)), False)
        self.assertIs(is_trip(boat, (0, 0), (0, 0)), False)
        self.assertIs(is_trip(boat, (GREAT, 0), (3, 0)), True)

    def test_any_trip(self):
        boat = Boat(("a", "b"), (2, 3), 7)
        for value in STRANGE + ([2, 1], (2,), (2, 1, 0), (2, True), (2.0, 1), "21", (2, None), {2: 1}, (-1, 3)):
            self.assertIs(is_trip(boat, (9, 9), value), False)
        for value in (None, (3, 0)):
            for crowd in strange_but(2) + ((9,), (9, 9, 9), [9, 9]):
                self.fault(InvalidPool, -1, is_trip, boat, crowd, value)
            for item in STRANGE + (GREAT + 1,):
                self.fault(InvalidPool, 0, is_trip, boat, (item, item), value)
                self.fault(InvalidPool, 1, is_trip, boat, (9, item), value)

    def test_many_trips(self):
        chance = random.Random(4)
        for boat in chance.sample(list(some_boats(9)), 60):
            crowd = tuple(chance.randint(0, 4) for _ in boat.kinds)
            found = plain_trips(boat, crowd)
            for load in boxes([most + 1 for most in crowd]):
                self.assertIs(is_trip(boat, crowd, load), load in found)
            self.assertEqual(fills(boat), tuple(boat.room // size for size in boat.sizes))

    def test_twice_the_shortest(self):
        for boat in some_boats(6):
            known = {}
            for crowd in boxes((5, 5) if len(boat.kinds) < 3 else (3, 3, 3)):
                crowd = crowd[:len(boat.kinds)]
                if any(crowd):
                    found = round_lengths(boat, crowd, known)
                    self.assertLessEqual(max(found), 2 * min(found) - 1)


class EvenBoats(Case):

    def test_examples(self):
        boat = Boat(("a", "b"), (2, 4), 9)
        self.assertIs(is_even_boat(boat=boat), True)
        self.assertEqual(trips(boat, (1, 2)), 2)
        self.assertEqual(trips(boat=boat, crowd=(3, 2)), 2)
        self.assertEqual(spare(boat, (1, 2)), (3, 1))
        self.assertEqual(spare(boat=boat, crowd=(0, 0)), (0, 0))
        self.assertEqual(trips(boat, (0, 0)), 0)
        self.assertEqual(spare(boat, (4, 0)), (0, 0))
        self.assertIsNone(split_of(boat=boat))
        uneven = Boat(("a", "b"), (2, 3), 7)
        self.assertIs(is_even_boat(uneven), False)
        self.assertIs(is_split(uneven, ((2, 1), (2, 1), (0, 2))), True)
        self.assertIs(is_split(boat=uneven, value=split_of(uneven)), True)
        self.assertIs(is_split(uneven, ((2, 1), (2, 1), (2, 1))), False)

    def test_great(self):
        boat = Boat(EIGHT, (1, 2, 4, 8, 16, 32, 64, 128), 512)
        self.assertIs(is_even_boat(boat), True)
        self.assertEqual(trips(boat, (GREAT,) * 8), -(-255 * GREAT // 512))
        boat = Boat(("a", "b"), (1, 10 ** 9), 10 ** 9)
        self.assertEqual(trips(boat, (GREAT, GREAT)), GREAT + 10 ** 9)
        self.assertEqual(spare(boat, (1, GREAT)), (10 ** 9 - 1, 0))

    def test_uneven_last(self):
        boat = Boat(("a", "b"), (2, 3), 7)
        for call in (trips, spare):
            self.fault(Refused, "uneven", call, boat, (0, 0))
            self.fault(Refused, "uneven", call, boat, (GREAT, 1))
            for even in (boat, Boat(("a", "b"), (2, 2), 7)):
                for crowd in strange_but(2) + ((1,), (1, 1, 1), [1, 1]):
                    self.fault(InvalidPool, -1, call, even, crowd)
                for item in STRANGE + (GREAT + 1,):
                    self.fault(InvalidPool, 1, call, even, (GREAT, item))

    def test_any_split(self):
        boat = Boat(("a", "b"), (2, 3), 7)
        good = ((2, 1), (2, 1), (0, 2))
        for value in STRANGE + (good[:2], good + ((0, 0),), list(good), None):
            self.assertIs(is_split(boat, value), False)
        for item in STRANGE + ([2, 1], (2,), (2, 1, 0), (2, 2), (-1, 1), (0, 0), (True, 1)):
            for at in range(3):
                value = good[:at] + (item,) + good[at + 1:]
                self.assertIs(is_split(boat, value), False)

    def test_all_small_boats(self):
        uneven = 0
        for boat in some_boats(12):
            count = len(boat.kinds)
            full = fills(boat)
            even = all(divide(one, other) for one, other in itertools.combinations(full, 2)) and all(
                boat.room % one < other for one in boat.sizes for other in boat.sizes
            )
            self.assertIs(is_even_boat(boat), even)
            pairs = [
                Boat(("a", "b"), (boat.sizes[i], boat.sizes[j]), boat.room)
                for i, j in itertools.combinations(range(count), 2)
            ]
            self.assertIs(all(map(is_even_boat, pairs)), even)
            split = split_of(boat)
            self.assertIs(split is None, even)
            if even:
                self.check_even(boat)
            else:
                self.check_split(boat, split)
                uneven += 1
        self.assertGreater(uneven, 100)

    def check_split(self, boat, split):
        """Check by the definition that two loads become three trips."""
        one, other, trip = split
        self.assertIs(is_split(boat, split), True)
        for load in split:
            self.assertEqual((len(load), load.__class__), (len(boat.kinds), tuple))
            self.assertTrue(min(load) >= 0 and room_of(boat, load) <= boat.room)
        crowd = plus(one, other)
        self.assertTrue(any(trip) and within(trip, crowd))
        rest = minus(crowd, trip)
        free = boat.room - room_of(boat, trip)
        self.assertTrue(all(size > free for size, there in zip(boat.sizes, rest) if there))
        self.assertGreater(room_of(boat, rest), boat.room)

    def check_even(self, boat):
        """Check that all rounds have one length, and what `trips` and `spare` tell."""
        known = {}
        full = fills(boat)
        whole = max(full)
        tops = (6, 4, 3) if len(full) == 3 else (7, 7)[:len(full)]
        for crowd in boxes(tops):
            shares = sum(amount * (whole // most) for amount, most in zip(crowd, full))
            self.assertIs(room_of(boat, crowd) <= boat.room, shares <= whole)
            self.assertEqual(trips(boat, crowd), -(-shares // whole))
            if sum(crowd) <= 9:
                self.assertEqual(round_lengths(boat, crowd, known), {trips(boat, crowd)})
            for k, more in enumerate(spare(boat, crowd)):
                added = crowd[:k] + (crowd[k] + more,) + crowd[k + 1:]
                self.assertEqual(trips(boat, added), trips(boat, crowd))
                added = crowd[:k] + (crowd[k] + more + 1,) + crowd[k + 1:]
                self.assertEqual(trips(boat, added), trips(boat, crowd) + 1)

    def test_splits_by_the_definition(self):
        for boat in some_boats(7):
            if len(boat.kinds) != 2:
                continue
            loads = [load for load in boxes(fills(boat)) if room_of(boat, load) <= boat.room]
            found = False
            for one, other in itertools.product(loads, repeat=2):
                crowd = plus(one, other)
                for trip in plain_trips(boat, crowd):
                    splits = room_of(boat, minus(crowd, trip)) > boat.room
                    self.assertIs(is_split(boat, (one, other, trip)), splits)
                    found = found or splits
            self.assertIs(is_even_boat(boat), not found)

    def test_uneven_means_two_lengths(self):
        for boat in some_boats(8):
            split = split_of(boat)
            if split is not None and sum(map(sum, split[:2])) <= 12:
                found = round_lengths(boat, plus(split[0], split[1]), {})
                self.assertTrue(2 in found and max(found) > 2)

    def test_great_splits(self):
        chance = random.Random(5)
        for _ in range(2000):
            room = chance.randint(10 ** 8, 10 ** 9)
            count = chance.randint(2, 8)
            top = chance.choice((5, 1000, 10 ** 6, room))
            sizes = tuple(chance.randint(1, top) for _ in range(count))
            boat = Boat(EIGHT[:count], sizes, room)
            split = split_of(boat)
            if split is not None:
                self.check_split(boat, split)
            self.assertIs(is_even_boat(boat), split is None)


if __name__ == "__main__":
    unittest.main()
