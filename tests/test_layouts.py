"""[18], [19], [20]: ways laid out, counted, numbered; shares."""

import itertools
import random
import unittest

from asmany.books import Book
from asmany.errors import InvalidNumber, Refused
from asmany.layouts import book_of, count_ways, is_way, place_of_way, share, way_at, ways_of
from plain import STRANGE, Case, Stubborn, boxes, formula_ways, named, plus, some_formulas, within

A, B, C, D, E, F, G, H = EIGHT = tuple(("kind", name) for name in "abcdefgh")
SIXTY = ("many", 60, ("or", EIGHT))


def pair(number, one, other):
    """A formula with so many ways of two kinds."""
    return "many", number - 1, ("or", (one, other))


TWO_HUNDRED = ("and", (pair(8, A, B), pair(25, C, D)))
TWO_THOUSAND = ("and", (pair(40, A, B), pair(50, C, D)))
HUNDRED_THOUSAND = ("and", (pair(40, A, B), pair(50, C, D), pair(50, E, F)))


class Ways(Case):

    def test_examples(self):
        formula = ("and", (A, ("many", 2, ("or", (B, C)))))
        self.assertEqual(ways_of(formula), ((1, 0, 2), (1, 1, 1), (1, 2, 0)))
        self.assertEqual(ways_of(formula=formula, most=3), ways_of(formula))
        self.assertEqual(book_of(formula=formula), Book(("a", "b", "c"), ways_of(formula)))
        self.assertEqual(ways_of(("many", 60, A), most=1), ((60,),))
        self.assertEqual(ways_of(("or", (B, A))), ((0, 1), (1, 0)))
        self.assertEqual(ways_of(("many", 2, ("many", 5, ("and", (B, A))))), ((10, 10),))

    def test_many(self):
        for formula in some_formulas(140, 300, kinds=5, top=6):
            kinds = named(formula)
            ways = tuple(sorted(formula_ways(formula, kinds)))
            self.assertEqual(ways_of(formula, most=100000), ways)
            self.assertEqual(count_ways(formula), len(ways))
            self.assertTrue(not any(within(*two) for two in itertools.permutations(ways[:40], 2)))
            if len(ways) <= 200:
                self.assertEqual(book_of(formula), Book(kinds, ways))
            for number in {0, 1, len(ways) // 2, len(ways) - 1} & set(range(len(ways))):
                self.assertEqual(way_at(formula, number), ways[number])
                self.assertEqual(place_of_way(formula, ways[number]), number)
            self.fault(InvalidNumber, "number", way_at, formula, len(ways))

    def test_every_number(self):
        three = ("many", 3, ("or", (("and", (A, ("many", 2, ("or", (D, H))))), C, F)))
        for formula in (SIXTY_OF_TWO, TWO_HUNDRED, three):
            ways = ways_of(formula)
            for number, way in enumerate(ways):
                self.assertEqual((way_at(formula, number), place_of_way(formula, way)), (way, number))

    def test_numbers_of_ways(self):
        for formula, count in (
            (TWO_HUNDRED, 200), (("or", (TWO_HUNDRED, E)), 201), (TWO_THOUSAND, 2000),
            (("or", (TWO_THOUSAND, H)), 2001),
            (HUNDRED_THOUSAND, 100000), (("or", (HUNDRED_THOUSAND, H)), 100001), (SIXTY, 869648208), (A, 1),
        ):
            self.assertEqual(count_ways(formula), count)
            if count <= 200:
                self.assertEqual(len(book_of(formula).ways), count)
            else:
                self.fault(Refused, "wide", book_of, formula)
            if count <= 2000:
                self.assertEqual(len(ways_of(formula)), count)
            else:
                self.fault(Refused, "wide", ways_of, formula)
            if count <= 100000:
                ways = ways_of(formula, most=count)
                self.assertEqual(len(set(ways)), count)
                self.assertEqual(list(ways), sorted(ways))
                self.assertEqual(ways_of(formula, most=min(count + 1, 100000)), ways)
            else:
                self.fault(Refused, "wide", ways_of, formula, most=100000)
            if 1 < count <= 100001:
                self.fault(Refused, "wide", ways_of, formula, most=count - 1)

    def test_wrong_most(self):
        for most in STRANGE + (0, 100001, "5", 2.0, (5,)):
            self.fault(InvalidNumber, "most", ways_of, A, most=most)
            self.fault(InvalidNumber, "most", ways_of, SIXTY, most=most)
        self.assertRaises(TypeError, ways_of, A, 2000)


SIXTY_OF_TWO = ("many", 60, ("or", (A, B)))


class Numbers(Case):

    def test_examples(self):
        self.assertEqual(way_at(SIXTY, 60), (0, 0, 0, 0, 0, 0, 60, 0))
        self.assertEqual(place_of_way(SIXTY, (0, 0, 0, 0, 0, 1, 0, 59)), 61)
        self.assertEqual(way_at(formula=SIXTY, number=0), (0,) * 7 + (60,))
        self.assertEqual(place_of_way(formula=SIXTY, value=(60,) + (0,) * 7), 869648207)
        self.assertEqual(count_ways(formula=SIXTY), 869648208)

    def test_huge(self):
        deep = ("and", (
            ("many", 4, ("or", (A, ("many", 15, ("or", (B, C, ("and", (D, E)))))))), ("many", 60, ("or", (F, G, H))),
        ))
        halves = ("or", (("many", 20, ("or", EIGHT[:4])), ("many", 20, ("or", EIGHT[4:]))))
        for formula in (SIXTY, deep, ("many", 3, halves)):
            count = count_ways(formula)
            self.assertGreater(count, 10 ** 6)
            chance = random.Random(1)
            numbers = sorted({0, 1, count - 2, count - 1} | {chance.randrange(count) for _ in range(25)})
            ways = [way_at(formula, number) for number in numbers]
            self.assertEqual(ways, sorted(ways))
            for number, way in zip(numbers, ways):
                self.assertEqual(place_of_way(formula, way), number)
                self.assertIs(is_way(formula, way), True)
                if number > 0:
                    self.assertLess(way_at(formula, number - 1), way)
            for number in (count, count + 1, 10 ** 30):
                self.fault(InvalidNumber, "number", way_at, formula, number)

    def test_wrong_numbers(self):
        wrong = [value for value in STRANGE if value.__class__ is not int or value < 0]
        for number in wrong + [10 ** 30, 3, "0", 0.0, (0,)]:
            self.fault(InvalidNumber, "number", way_at, ("or", (A, B, C)), number)

    def test_any_value(self):
        formula = ("and", (A, ("many", 2, ("or", (B, C)))))
        wrong = STRANGE + (
            [1, 1, 1], (1, 1), (1, 1, 1, 0), (True, 1, 1), (1, True, 1), (1, 1.0, 1), (1, 1, None), (1, 1, "1"),
            (1, 1, 0),
            (2, 2, 2), (0, 0, 0), (1, -1, 3), (1, 0, 10 ** 30), "111", {1: 1}, ((1, 1, 1),), (1, 1, [1]),
            (1, 1, Stubborn()),
        )
        for value in wrong:
            self.assertIsNone(place_of_way(formula, value))
            self.assertIs(is_way(formula, value), False)
        self.assertIs(is_way(formula=formula, value=(1, 1, 1)), True)
        self.assertIs(is_way(A, (True,)), False)
        self.assertIsNone(place_of_way(A, (True,)))
        self.assertEqual(place_of_way(A, (1,)), 0)

    def test_only_ways(self):
        for formula in some_formulas(141, 120, kinds=3, top=4):
            kinds = named(formula)
            ways = sorted(formula_ways(formula, kinds))
            for value in boxes((5,) * len(kinds)):
                self.assertIs(is_way(formula, value), value in ways)
                self.assertEqual(place_of_way(formula, value), ways.index(value) if value in ways else None)


class Shares(Case):

    def test_examples(self):
        formula = ("and", (A, ("many", 2, ("or", (B, C)))))
        self.assertEqual(share(formula, (3, 1, 5)), 3)
        self.assertIsNone(share(formula, (3, 1, 4)))
        self.assertEqual(share(formula=formula, amounts=(0, 0, 0)), 0)
        great = 10 ** 40
        self.assertEqual(share(formula, (great, 1, 2 * great - 1)), great)
        self.assertIsNone(share(formula, (great, 0, 2 * great - 1)))
        self.assertIsNone(share(formula, (great, 0, 2 * great + 2)))
        self.assertEqual(share(SIXTY, (great,) * 6 + (0, 0)), 10 ** 39)
        self.assertEqual(share(("or", (A, ("many", 3, B))), (7, 30)), 17)
        self.assertIsNone(share(("or", (A, ("many", 3, B))), (7, 31)))

    def test_many(self):
        for formula in some_formulas(142, 150, kinds=3, top=4):
            kinds = named(formula)
            ways = formula_ways(formula, kinds)
            known = {(0,) * len(kinds): {0}}
            rows = known
            for number in (1, 2, 3):
                rows = {plus(one, way): True for one in rows for way in ways}
                for row in rows:
                    known.setdefault(row, set()).add(number)
            for amounts, numbers in known.items():
                self.assertEqual(len(numbers), 1)
                self.assertEqual({share(formula, amounts)}, numbers)
            for amounts in boxes((3,) * len(kinds)):
                if amounts not in known:
                    found = share(formula, amounts)
                    self.assertTrue(found is None or found > 3)


if __name__ == "__main__":
    unittest.main()
