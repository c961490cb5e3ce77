"""[75], and what stands before [73]: fair prices."""

import itertools
import random
import unittest
from math import gcd

from asmany.books import Book
from asmany.errors import InvalidNumber, Refused
from asmany.fair import fair_prices, is_fair, piece_worths, worth_steps
from asmany.formulas import normal
from asmany.layouts import book_of
from asmany.shows import read_formula
from asmany.texts import read_book
from asmany.together import joined_by_or
from plain import STRANGE, Case, all_normal_formulas, all_small_books, boxes, formula_ways, minus, named, some_books
from plain import some_formulas, stories, strange_but, within

FORMULA = read_formula("a and (2 of b or 3 of c)")
EIGHT = tuple(("kind", name) for name in "abcdefgh")
SIXTY = ("many", 60, ("or", EIGHT))
GREAT = 10 ** 18
MOST = 10 ** 9


def price(amounts, prices):
    return sum(x * y for x, y in zip(amounts, prices))


def left_prices(ways, prices, pool, known):
    """The prices of all that full runs leave of a pool."""
    if pool not in known:
        found = set()
        for way in ways:
            if within(way, pool):
                found |= left_prices(ways, prices, minus(pool, way), known)
        known[pool] = found or {price(pool, prices)}
    return known[pool]


def parts_of(formula):
    whole = normal(formula)
    return whole[1] if whole[0] == "or" else (whole,)


def block_of(ways, number):
    """The ways that hang together with one by common kinds."""
    found = {number}
    while True:
        more = {at for at, way in enumerate(ways) if any(any(x and y for x, y in zip(way, ways[one])) for one in found)}
        if more <= found:
            return sorted(found)
        found |= more


class Fair(Case):

    def test_examples(self):
        self.assertEqual(worth_steps(formula=FORMULA), (1,))
        self.assertEqual(piece_worths(formula=FORMULA, prices=(4, 3, 2)), (10,))
        self.assertIsNone(piece_worths(FORMULA, (4, 3, 3)))
        self.assertIs(is_fair(book=book_of(FORMULA), prices=(4, 3, 2)), True)
        self.assertIs(is_fair(book_of(FORMULA), (4, 3, 3)), False)
        found = fair_prices(formula=FORMULA, worths=(10,))
        self.assertEqual(piece_worths(FORMULA, found), (10,))
        formula = read_formula("4 of (a or 3 of b) or 2 of (c and 3 of d) or e")
        self.assertEqual(worth_steps(formula), (12, 2, 1))
        self.assertEqual(piece_worths(formula, fair_prices(formula, (-24, 8, 5))), (-24, 8, 5))
        self.fault(Refused, "step", fair_prices, formula, (-23, 8, 5))
        self.fault(Refused, "step", fair_prices, formula, (12, 3, 5))

    def test_books(self):
        """Fair exactly if the prices of the ways would be level as worths."""
        chance = random.Random(750)
        told = [0, 0]
        for kinds, ways in all_small_books()[::5] + some_books(751, 100, kinds=4, ways=4):
            book = Book(kinds, ways)
            for _ in range(5):
                prices = tuple(chance.choice((0, 0, 1, 1, -1, 2)) for _ in kinds)
                costs = [price(way, prices) for way in ways]
                right = True
                for number in range(len(ways)):
                    block = block_of(ways, number)
                    if len({costs[at] for at in block}) > 1 or costs[number] and stories([ways[at] for at in block]):
                        right = False
                told[right] += 1
                self.assertIs(is_fair(book, prices), right)
                if right:
                    known = {}
                    for _ in range(3):
                        pool = tuple(chance.randint(0, 4) for _ in kinds)
                        self.assertEqual(len(left_prices(ways, prices, pool, known)), 1)
        self.assertGreater(min(told), 100)

    def test_small_pools_tell(self):
        for kinds, ways in [pair for pair in all_small_books() if len(pair[0]) == 2 and max(map(max, pair[1])) <= 2]:
            book = Book(kinds, ways)
            for prices in itertools.product((-1, 0, 1, 2), repeat=2):
                known = {}
                alike = all(len(left_prices(ways, prices, pool, known)) == 1 for pool in boxes([4, 4]))
                self.assertIs(is_fair(book, prices), alike)

    def test_formulas(self):
        chance = random.Random(752)
        told = [0, 0]
        for formula in all_normal_formulas("ab", 6) + all_normal_formulas("abc", 3)[::3] + some_formulas(753, 100, kinds=5, top=4):
            kinds = named(formula)
            ways = sorted(formula_ways(formula, kinds))
            if len(ways) > 40:
                continue
            parts = [[way for way in ways if all(not amount or kind in named(part) for kind, amount in zip(kinds, way))]
                     for part in parts_of(formula)]
            self.assertEqual(sum(map(len, parts)), len(ways))
            for _ in range(4):
                prices = tuple(chance.choice((0, 1, 1, 2, -1)) for _ in kinds)
                costs = [{price(way, prices) for way in rows} for rows in parts]
                right = all(len(one) == 1 for one in costs)
                told[right] += 1
                self.assertIs(is_fair(Book(kinds, tuple(ways)), prices), right)
                self.assertEqual(piece_worths(formula, prices), tuple(min(one) for one in costs) if right else None)
        self.assertGreater(min(told), 60)

    def test_steps(self):
        """A way of a part may have exactly the multiples of its step as its price."""
        for formula in all_normal_formulas("ab", 6) + all_normal_formulas("abc", 3)[::2]:
            kinds = named(formula)
            ways = sorted(formula_ways(formula, kinds))
            if len(kinds) > 2 and len(ways) > 6:
                continue
            parts = parts_of(formula)
            steps = worth_steps(formula)
            self.assertEqual(len(steps), len(parts))
            found = [0] * len(parts)
            top = 6 if len(kinds) < 3 else 3
            for prices in itertools.product(range(-top, top + 1), repeat=len(kinds)):
                told = piece_worths(formula, prices)
                if told is not None:
                    for at, one in enumerate(told):
                        found[at] = gcd(found[at], one)
                        self.assertEqual(one % steps[at], 0)
            self.check_prices(formula, steps)
            for at, step in enumerate(steps):
                if max(max(way) for way in ways) <= top:
                    self.assertEqual(found[at], step)

    def check_prices(self, formula, steps):
        """Check the fair prices for multiples of the steps, and for what is none."""
        chance = random.Random(754)
        for _ in range(3):
            worths = tuple(step * chance.randint(-(MOST // step), MOST // step) for step in steps)
            found = fair_prices(formula, worths)
            self.assertIs(found.__class__, tuple)
            self.assertEqual(len(found), len(named(formula)))
            self.assertTrue(all(one.__class__ is int and -GREAT <= one <= GREAT for one in found))
            self.assertEqual(piece_worths(formula, found), worths)
            for at, step in enumerate(steps):
                if step > 1 and worths[at] < MOST:
                    self.fault(Refused, "step", fair_prices, formula, worths[:at] + (worths[at] + 1,) + worths[at + 1:])

    def test_great_formulas(self):
        for formula in some_formulas(755, 200, kinds=8, top=60) + [SIXTY]:
            self.check_prices(formula, worth_steps(formula))
        self.assertEqual(worth_steps(SIXTY), (60,))
        self.assertEqual(fair_prices(SIXTY, (120,)), (2,) * 8)
        numbers = (59, 60, 53, 49, 47, 43, 41, 37)
        parts = tuple(("many", number, part) for number, part in zip(numbers, EIGHT))
        both = ("and", (("or", parts[:4]), ("or", parts[4:])))
        self.assertEqual(worth_steps(both), (1,))
        self.check_prices(both, (1,))
        for at, one in enumerate(fair_prices(both, (MOST,))):
            self.assertLessEqual(abs(one), GREAT, at)
        self.assertEqual(piece_worths(both, fair_prices(both, (-MOST,))), (-MOST,))
        self.assertEqual(worth_steps(("or", parts)), numbers)
        whole = ("and", (("or", parts[:7]), parts[7]))
        self.assertEqual(worth_steps(whole), (1,))
        self.check_prices(whole, (1,))
        twice = ("and", (("or", parts[:3]), ("or", tuple(("many", number, part) for number, part in zip(numbers, EIGHT[3:6])))))
        self.assertEqual(worth_steps(twice), (59 * 60 * 53,))
        self.check_prices(twice, (59 * 60 * 53,))

    def test_no_multiple_but_zero(self):
        numbers = (29, 27, 25, 23, 19, 17, 13, 11)
        formula = ("many", 2, ("or", tuple(("many", number, part) for number, part in zip(numbers, EIGHT))))
        product = 2
        for number in numbers:
            product *= number
        self.assertGreater(product, MOST)
        self.assertEqual(worth_steps(formula), (product,))
        self.check_prices(formula, (product,))
        self.assertEqual(fair_prices(formula, (0,)), (0,) * 8)
        self.fault(Refused, "step", fair_prices, formula, (MOST,))

    def test_great_prices(self):
        one, other = book_of(read_formula("18 of (a or b or c)")), book_of(read_formula("9 of (d or e)"))
        book = joined_by_or(one, other)
        self.assertIs(is_fair(book, (GREAT, GREAT, GREAT, -GREAT, -GREAT)), True)
        self.assertIs(is_fair(book, (GREAT, GREAT, GREAT, -GREAT, 1 - GREAT)), False)
        self.assertEqual(piece_worths(SIXTY, (GREAT,) * 8), (60 * GREAT,))
        self.assertIsNone(piece_worths(SIXTY, (GREAT,) * 7 + (1 - GREAT,)))

    def test_wrong_prices(self):
        book = read_book("a\nb\nc")
        wrong = list(strange_but(3)) + [[0] * 3, (0,) * 2, (0,) * 4, "000"]
        for item in STRANGE + (GREAT + 1, -GREAT - 1, "0", 0.0):
            if item.__class__ is not int or abs(item) > GREAT:
                wrong += [(0, item, 0), (item,) * 3]
        for prices in wrong:
            self.fault(InvalidNumber, "prices", is_fair, book, prices)
            self.fault(InvalidNumber, "prices", piece_worths, FORMULA, prices)

    def test_wrong_worths(self):
        formula = read_formula("4 of (a or b) or c or 2 of (d or e)")
        wrong = list(strange_but(3)) + [[0] * 3, (0,) * 2, (0,) * 4, "000"]
        for item in STRANGE + (MOST + 1, -MOST - 1, "0", 0.0):
            if item.__class__ is not int or abs(item) > MOST:
                # Before it is seen that another one is no multiple.
                wrong += [(1, item, 0), (item,) * 3]
        for worths in wrong:
            self.fault(InvalidNumber, "worths", fair_prices, formula, worths)
        self.fault(Refused, "step", fair_prices, formula, (1, 0, 0))
        self.assertEqual(piece_worths(formula, fair_prices(formula, (MOST, -MOST, MOST))), (MOST, -MOST, MOST))


if __name__ == "__main__":
    unittest.main()
