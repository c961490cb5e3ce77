"""[67] boat_book, [68] boat_formula, [69] rooms and formulas as boats, and what stands before [67]."""

import itertools
import random
import unittest

from asmany.boats import Boat, fills, is_even_boat, is_trip, trips
from asmany.errors import InvalidNumber, Refused
from asmany.formulas import check_formula, normal
from asmany.rooms import boat_book, boat_formula, boats_of, even_rooms, last_even_room
from asmany.serving import sessions_needed
from asmany.shows import read_formula, show_formula
from asmany.sides import all_sides
from asmany.stories import first_story
from plain import STRANGE, Case, Stubborn, all_normal_formulas, boxes, formula_ways, named, plain_sessions
from plain import rounds, some_formulas, strange_numbers, within

GREAT = 10 ** 18


def loads(boat):
    """All loads, by the definition."""
    tops = [boat.room // size for size in boat.sizes]
    return [row for row in boxes(tops) if sum(x * y for x, y in zip(row, boat.sizes)) <= boat.room]


def greatest(rows):
    return sorted(row for row in rows if not any(row != other and within(row, other) for other in rows))


def small_boats(seed, many, kinds=3, room=9):
    chance = random.Random(seed)
    found = []
    for _ in range(many):
        size = chance.randint(1, room)
        count = chance.randint(1, kinds)
        found.append(Boat(tuple("abcdefgh"[:count]), tuple(chance.randint(1, size) for _ in range(count)), size))
    return found


def even_by_rounds(boat, ways, tops):
    """Whether the complete rounds of each small crowd have one length."""
    known = {}
    return all(len(rounds(ways, crowd, known)[0]) == 1 for crowd in boxes(tops))


class Books(Case):

    def test_examples(self):
        book = boat_book(boat=Boat(("a", "b"), (2, 3), 6))
        self.assertEqual((book.kinds, book.ways), (("a", "b"), ((0, 2), (1, 1), (3, 0))))
        self.assertEqual(boat_book(Boat(("a",), (1,), 60)).ways, ((60,),))
        self.assertEqual(boat_book(Boat(("a",), (10 ** 9,), 10 ** 9)).ways, ((1,),))
        self.assertEqual(show_formula(boat_formula(boat=Boat(("a", "b", "c"), (6, 3, 1), 12))), "2 of (a or 2 of (b or 3 of c))")

    def test_small(self):
        """The greatest loads; by this book trips are sessions."""
        chance = random.Random(67)
        for boat in small_boats(670, 150, kinds=4, room=8):
            right = greatest(loads(boat))
            book = boat_book(boat)
            self.assertEqual((book.kinds, book.ways), (boat.kinds, tuple(right)))
            crowd = tuple(chance.randint(0, 3) for _ in boat.kinds)
            sessions = plain_sessions(book.ways, crowd)
            for row in boxes(crowd):
                self.assertIs(is_trip(boat, crowd, row), row in sessions)
            if any(crowd):
                found = rounds(book.ways, crowd)[0]
                self.assertLessEqual(max(found), 2 * min(found) - 1)

    def test_wide(self):
        eight = tuple("abcdefgh")
        boat = Boat(eight[:3], (1, 1, 1), 18)
        self.assertEqual(len(boat_book(boat).ways), 190)
        self.fault(Refused, "wide", boat_book, Boat(eight[:3], (1, 1, 1), 19))
        self.assertEqual(len(boat_book(Boat(eight[:2], (1, 1), 60)).ways), 61)
        self.fault(Refused, "wide", boat_book, Boat(("a",), (1,), 61))
        self.fault(Refused, "wide", boat_book, Boat(("a", "b"), (1, 61), 61))
        self.fault(Refused, "wide", boat_book, Boat(eight, (1,) * 8, 60))
        self.fault(Refused, "wide", boat_book, Boat(eight, (1,) * 8, 10 ** 9))
        self.assertEqual(len(boat_book(Boat(eight, (7,) * 8, 20)).ways), 36)
        # Exactly 200 loads, and 201.
        counts = {}
        for sizes in itertools.combinations_with_replacement(range(1, 13), 3):
            for room in range(max(sizes), 61):
                if room // min(sizes) <= 60:
                    count = sum((room - sizes[2] * x - sizes[1] * y) >= 0
                                for x in range(room // sizes[2] + 1) for y in range(room // sizes[1] + 1))
                    counts.setdefault(count, Boat(eight[:3], sizes, room))
        self.assertEqual(len(boat_book(counts[200]).ways), 200)
        self.fault(Refused, "wide", boat_book, counts[201])

    def test_formulas(self):
        some = [0, 0]
        for boat in small_boats(671, 250, kinds=3, room=12) + small_boats(672, 60, kinds=5, room=6):
            found = boat_formula(boat)
            some[found is None] += 1
            self.assertIs(found is not None, is_even_boat(boat))
            book = boat_book(boat)
            self.assertIs(found is None, first_story(book) is not None)
            if found is None:
                continue
            self.assertIsNone(check_formula(found))
            self.assertEqual(normal(found), found)
            self.assertEqual(named(found), boat.kinds)
            self.assertEqual(formula_ways(found, boat.kinds), set(greatest(loads(boat))))
        self.assertGreater(min(some), 50)

    def test_formulas_with_many_loads(self):
        eight = tuple("abcdefgh")
        self.assertEqual(boat_formula(Boat(eight, (1,) * 8, 60)), read_formula("60 of (a or b or c or d or e or f or g or h)"))
        self.assertEqual(show_formula(boat_formula(Boat(("a", "b", "c"), (1, 30, 2), 60))), "2 of (15 of (2 of a or c) or b)")
        self.assertIsNone(boat_formula(Boat(("a", "b"), (2, 3), 60)))
        self.fault(Refused, "wide", boat_formula, Boat(("a", "b"), (1, 2), 61))
        # Before it is seen that the boat is not even.
        self.fault(Refused, "wide", boat_formula, Boat(("a", "b", "c"), (2, 3, 1), 61))
        self.assertEqual(boat_formula(Boat(("a", "b"), (10 ** 9, 10 ** 8), 10 ** 9)), read_formula("a or 10 of b"))


class Rooms(Case):

    def plain_even(self, sizes, room):
        """Whether a room is even: no crowd has rounds of two lengths, by the book of the greatest loads."""
        boat = Boat(tuple("abcdefgh"[:len(sizes)]), sizes, room)
        book = boat_book(boat)
        return first_story(book) is None

    def test_examples(self):
        self.assertEqual(even_rooms(sizes=(2, 4), most=12), (4, 5, 8, 9, 12))
        self.assertEqual(even_rooms((1, 3), 12), (3, 6, 9, 12))
        self.assertEqual(last_even_room(sizes=(2, 3)), 4)
        self.fault(Refused, "endless", last_even_room, (2, 4))
        self.fault(Refused, "endless", last_even_room, (7,))
        self.assertEqual(even_rooms((7,), 10), (7, 8, 9, 10))
        self.assertEqual(even_rooms((7, 7), 0), ())

    def test_small(self):
        for count in (1, 2, 3):
            for sizes in itertools.product(range(1, 8), repeat=count):
                if count == 3 and sum(sizes) % 3:
                    continue
                top = 12 if count == 3 else 16
                right = tuple(room for room in range(max(sizes), top + 1) if self.plain_even(sizes, room))
                self.assertEqual(even_rooms(sizes, top), right)

    def test_by_rounds(self):
        for sizes in itertools.combinations(range(1, 6), 2):
            rooms = even_rooms(sizes, 8)
            for room in range(max(sizes), 9):
                boat = Boat(("a", "b"), sizes, room)
                tops = [2 * fill + 1 for fill in fills(boat)]
                if tops[0] * tops[1] <= 60:
                    self.assertIs(room in rooms, even_by_rounds(boat, tuple(greatest(loads(boat))), tops))

    def test_last(self):
        """There is no greatest even room exactly if of each two sizes one divides the other."""
        chance = random.Random(69)
        none = 0
        found = list(itertools.combinations(range(1, 13), 2)) + list(itertools.combinations(range(2, 11), 3))
        for sizes in found:
            sizes = tuple(chance.sample(sizes, len(sizes)))
            if all(max(pair) % min(pair) == 0 for pair in itertools.combinations(sizes, 2)):
                self.fault(Refused, "endless", last_even_room, sizes)
                rooms = even_rooms(sizes, 200)
                self.assertEqual(rooms, tuple(room for room in range(max(sizes), 201) if room % max(sizes) < min(sizes)))
            else:
                rooms = even_rooms(sizes, 1000)
                self.assertEqual(last_even_room(sizes), rooms[-1] if rooms else None)
                none += not rooms
        self.assertGreater(none, 5)

    def test_great_sizes(self):
        self.assertEqual(even_rooms((200,), 10000), tuple(range(200, 10001)))
        self.assertEqual(len(even_rooms((1, 2, 4, 8, 16, 32, 64, 128), 10000)), 78)
        for sizes in ((199, 200), (200, 199, 199), (197, 200), (198, 200, 199), (101, 200), (3, 200), (199, 3)):
            rooms = even_rooms(sizes, 10000)
            last = last_even_room(sizes)
            if last is None or last <= 10000:
                self.assertEqual(last, rooms[-1] if rooms else None)
            boat = Boat(tuple("abcdefgh"[:len(sizes)]), sizes, rooms[-1] if rooms else 10000)
            self.assertIs(is_even_boat(boat), bool(rooms))
        # Far beyond the rooms that are listed: 198 of each fill the boat.
        self.assertEqual(last_even_room((199, 200)), 198 * 200)
        self.assertIs(is_even_boat(Boat(("a", "b"), (199, 200), 198 * 200)), True)
        for more in range(1, 2000, 7):
            self.assertIs(is_even_boat(Boat(("a", "b"), (199, 200), 198 * 200 + more)), False)

    def test_errors(self):
        for sizes in STRANGE + ((0,), (201,), (1,) * 9, (1, True), [1, 2], (1, 2.0), (1, "2"), (1, -2), (1, None), "12",
                                (Stubborn(), 1), (1, Stubborn())):
            if sizes.__class__ is not tuple or len(sizes) != 1 or sizes[0].__class__ is not int or not 1 <= sizes[0] <= 200:
                self.fault(Refused, "sizes", even_rooms, sizes, None)
                self.fault(Refused, "sizes", last_even_room, sizes)
        for most in strange_numbers() + [10001]:
            self.fault(InvalidNumber, "most", even_rooms, (1, 2), most)
        self.assertEqual(even_rooms((200,) * 8, 200), (200,))


class BoatsOfFormulas(Case):

    def test_examples(self):
        found = boats_of(formula=read_formula("2 of (a or 3 of b) and c"))
        self.assertEqual([vars(boat) for boat in found], [
            {"kinds": ("a", "b"), "sizes": (3, 1), "room": 6}, {"kinds": ("c",), "sizes": (1,), "room": 1}])
        self.assertIsNone(boats_of(read_formula("2 of a or 2 of b")))
        self.assertEqual([vars(boat) for boat in boats_of(read_formula("60 of a"))],
                         [{"kinds": ("a",), "sizes": (1,), "room": 60}])
        self.assertEqual(boats_of(read_formula("2 of (a or b)"))[0].sizes, (1, 1))

    def test_small(self):
        """A tuple is within a way exactly if each boat takes it; the sessions are the most trips of a boat."""
        chance = random.Random(68)
        some = [0, 0]
        formulas = all_normal_formulas("ab", 6) + all_normal_formulas("abc", 4)[::2] + some_formulas(690, 150, kinds=4, top=4)
        for formula in formulas:
            kinds = named(formula)
            ways = formula_ways(formula, kinds)
            found = boats_of(formula)
            some[found is None] += 1
            self.assertIs(found is not None, self.has_boats(ways, kinds))
            self.assertIs(found is None, self.is_taken_by_all_boats(ways, kinds))
            if found is None:
                continue
            self.assertEqual(tuple(boat.kinds for boat in found), all_sides(formula))
            for boat in found:
                tops = [max(way[kinds.index(kind)] for way in ways) for kind in boat.kinds]
                self.assertEqual(boat.room, max(tops))
                self.assertEqual(boat.sizes, tuple(boat.room // top for top in tops))
            for row in itertools.islice(boxes([min(max(way[k] for way in ways), 4) + 1 for k in range(len(kinds))]), 300):
                parts = [[row[kinds.index(kind)] for kind in boat.kinds] for boat in found]
                fits = all(sum(x * y for x, y in zip(part, boat.sizes)) <= boat.room for part, boat in zip(parts, found))
                self.assertIs(fits, any(within(row, way) for way in ways))
            demand = tuple(chance.randint(0, 9) for _ in kinds)
            needed = [trips(boat, tuple(demand[kinds.index(kind)] for kind in boat.kinds)) for boat in found]
            self.assertEqual(max(needed), sessions_needed(formula, demand))
        self.assertGreater(min(some), 100)

    def is_taken_by_all_boats(self, ways, kinds):
        """Whether boats that take all ways take some amounts of two kinds which are within no way.

        Such boats take each of the kinds alone, as much as a way has, and so any such parts of both.
        """
        tops = [max(way[k] for way in ways) for k in range(len(kinds))]
        for i, j in itertools.combinations(range(len(kinds)), 2):
            if any(way[i] == tops[i] and way[j] == tops[j] for way in ways):
                continue
            for x, y in boxes((tops[i], tops[j])):
                if x * tops[j] + y * tops[i] <= tops[i] * tops[j] and not any(x <= way[i] and y <= way[j] for way in ways):
                    return True
        return False

    def has_boats(self, ways, kinds):
        """Whether each two kinds that are together in no full way meet in the smaller one of their sizes."""
        tops = [max(way[k] for way in ways) for k in range(len(kinds))]
        for i, j in itertools.combinations(range(len(kinds)), 2):
            if any(way[i] == tops[i] and way[j] == tops[j] for way in ways):
                continue
            line = {way[i] for way in ways if way[i] and way[i] * tops[j] + way[j] * tops[i] == tops[i] * tops[j]}
            if len(line) != min(tops[i], tops[j]):
                return False
        return True

    def test_great(self):
        eight = tuple(("kind", name) for name in "abcdefgh")
        found = boats_of(("many", 60, ("or", eight)))
        self.assertEqual([(boat.kinds, boat.sizes, boat.room) for boat in found], [(tuple("abcdefgh"), (1,) * 8, 60)])
        found = boats_of(("and", (("many", 60, ("or", eight[:4])), ("many", 2, ("or", (eight[4], ("many", 30, ("or", eight[5:]))))))))
        self.assertEqual([(boat.kinds, boat.sizes, boat.room) for boat in found], [
            (tuple("abcd"), (1,) * 4, 60), (tuple("efgh"), (30, 1, 1, 1), 60)])
        formula = read_formula("(a and b and c) or (d and e and f) or (g and h)")
        self.assertEqual(len(boats_of(formula)), 18)
        demand = (GREAT, 1, 2, 3, GREAT, 0, 7, GREAT)
        needed = [trips(boat, tuple(demand["abcdefgh".index(kind)] for kind in boat.kinds)) for boat in boats_of(formula)]
        self.assertEqual(max(needed), 3 * GREAT)


if __name__ == "__main__":
    unittest.main()
