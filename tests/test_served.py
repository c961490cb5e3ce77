"""[43] what several sessions serve together, and what stands before [37]."""

import random
import time
import unittest

from asmany.errors import InvalidNumber, InvalidPool, Refused
from asmany.served import all_served, count_served, is_served_by
from asmany.serving import sessions_needed
from asmany.shows import read_formula
from plain import STRANGE, Case, Stubborn, all_normal_formulas, all_small_books, boxes, formula_ways, minus, named
from plain import plain_sessions, plus, some_books, some_formulas, stories, strange_but, strange_numbers, within

FORMULA = read_formula("2 of (a or (b and c))")
SIXTY = ("many", 60, ("or", tuple(("kind", name) for name in "abcdefgh")))
GREAT = 10 ** 18


def served_by_rounds(ways, demand, many, known):
    """All that the first sessions of complete rounds serve, so many or all of fewer."""
    if (demand, many) not in known:
        found = set()
        for session in plain_sessions(ways, demand) if many else ():
            found |= {plus(session, more) for more in served_by_rounds(ways, minus(demand, session), many - 1, known)}
        known[(demand, many)] = found or {(0,) * len(demand)}
    return known[(demand, many)]


def greatest_served(ways, demand, many):
    """The greatest tuples within the demand and within a sum of so many ways."""
    sums = {(0,) * len(demand)}
    for _ in range(many):
        sums = {plus(one, way) for one in sums for way in ways}
    inner = {tuple(map(min, one, demand)) for one in sums}
    return {one for one in inner if not any(one != other and within(one, other) for other in inner)}


def small_formulas(seed, most=20):
    found = all_normal_formulas("ab", 4) + all_normal_formulas("abc", 2)[::2] + some_formulas(seed, 120, kinds=4, top=4)
    return [formula for formula in found if len(formula_ways(formula, named(formula))) <= most]


class Served(Case):

    def test_examples(self):
        self.assertEqual(all_served(formula=FORMULA, demand=(1, 2, 4)), ((0, 2, 2), (1, 1, 1)))
        self.assertEqual(all_served(FORMULA, (1, 2, 4), many=2), ((0, 2, 4), (1, 2, 3)))
        self.assertEqual(all_served(FORMULA, (1, 2, 4), 2, most=2), ((0, 2, 4), (1, 2, 3)))
        self.assertEqual(all_served(FORMULA, (1, 2, 4), 3), ((1, 2, 4),))
        self.assertEqual(count_served(formula=FORMULA, demand=(1, 2, 4)), 2)
        self.assertEqual(count_served(FORMULA, (1, 2, 4), many=3), 1)
        self.assertEqual((count_served(FORMULA, (4, 4, 4)), count_served(FORMULA, (4, 4, 4), 2)), (3, 5))
        self.assertIs(is_served_by(formula=FORMULA, demand=(1, 2, 4), value=(1, 1, 1)), True)
        self.assertIs(is_served_by(FORMULA, (1, 2, 4), value=(1, 2, 3), many=2), True)
        self.assertIs(is_served_by(FORMULA, (1, 2, 4), (1, 2, 3)), False)
        self.assertIs(is_served_by(FORMULA, (1, 2, 4), (1, 1, 3), 2), False)

    def test_no_sessions(self):
        for formula in (FORMULA, SIXTY, read_formula("a and b and c"), read_formula("a or b or c")):
            count = len(named(formula))
            for demand in ((0,) * count, (1,) * count, (GREAT,) * count):
                self.assertEqual(all_served(formula, demand, 0), ((0,) * count,))
                self.assertEqual(count_served(formula, demand, 0), 1)
                self.assertIs(is_served_by(formula, demand, (0,) * count, 0), True)
                self.assertIs(is_served_by(formula, demand, (1,) * count, 0), False)
                self.assertIs(is_served_by(formula, demand, (0,) * count, 1), not any(demand))
            self.assertEqual(all_served(formula, (0,) * count, 20), ((0,) * count,))

    def test_small(self):
        """What sessions serve is always greatest, and each greatest tuple is served."""
        chance = random.Random(43)
        some = 0
        for formula in small_formulas(430):
            kinds = named(formula)
            ways = sorted(formula_ways(formula, kinds))
            top = 4 if len(kinds) < 3 else 2
            known = {}
            for _ in range(3):
                demand = tuple(chance.randint(0, top) for _ in kinds)
                for many in range(4):
                    found = served_by_rounds(ways, demand, many, known)
                    self.assertEqual(found, greatest_served(ways, demand, many))
                    self.assertEqual(all_served(formula, demand, many), tuple(sorted(found)))
                    self.assertEqual(count_served(formula, demand, many), len(found))
                    for row in boxes([amount + 1 for amount in demand]):
                        self.assertIs(is_served_by(formula, demand, row, many), row in found)
                    some += len(found) > 1
        self.assertGreater(some, 150)

    def test_books(self):
        """A book is even exactly if what sessions serve is always greatest."""
        told = [0, 0]
        for kinds, ways in all_small_books()[::12] + some_books(431, 40, kinds=3, ways=4, top=2):
            demands = list(boxes([2 * max(way[k] for way in ways) for k in range(len(kinds))]))
            if len(demands) > 200:
                continue
            known = {}
            always = all(served_by_rounds(ways, demand, many, known) <= greatest_served(ways, demand, many)
                         for demand in demands for many in (1, 2))
            told[always] += 1
            self.assertIs(always, not stories(ways))
        self.assertGreater(min(told), 10)

    def test_many(self):
        """Counted, laid out and asked for one by one, they are the same."""
        chance = random.Random(432)
        wide = 0
        for formula in some_formulas(433, 150, kinds=6, top=12):
            demand = tuple(chance.choice((chance.randint(0, 9), chance.randint(0, GREAT))) for _ in named(formula))
            many = chance.randint(0, 20)
            count = count_served(formula, demand, many)
            if count > 2000:
                self.fault(Refused, "wide", all_served, formula, demand, many)
                wide += 1
                continue
            found = all_served(formula, demand, many)
            self.assertEqual(len(found), count)
            self.assertEqual(list(found), sorted(set(found)))
            for row in chance.sample(found, min(len(found), 5)):
                self.assertIs(is_served_by(formula, demand, row, many), True)
                self.assertEqual(sessions_needed(formula, row), min(many, sessions_needed(formula, demand)))
                rest = minus(demand, row)
                self.assertEqual(sessions_needed(formula, rest), max(sessions_needed(formula, demand) - many, 0))
                at = chance.randrange(len(row))
                if row[at]:
                    self.assertIs(is_served_by(formula, demand, row[:at] + (row[at] - 1,) + row[at + 1:], many), False)
        self.assertGreater(wide, 5)

    def test_most(self):
        formula = read_formula("a or b or c")
        demand = (GREAT,) * 3
        self.assertEqual(len(all_served(formula, demand, 20)), 21 * 22 // 2)
        self.assertEqual(len(all_served(formula, demand, 20, most=231)), 231)
        self.fault(Refused, "wide", all_served, formula, demand, 20, most=230)
        self.assertEqual(len(all_served(formula, demand, 0, most=1)), 1)
        eight = ("or", tuple(("kind", name) for name in "abcdefgh"))
        self.assertEqual(len(all_served(eight, (GREAT,) * 8, 6)), 1716)
        # 2000 is the default.
        self.fault(Refused, "wide", all_served, eight, (GREAT,) * 8, 7)
        self.assertEqual(len(all_served(eight, (GREAT,) * 8, 7, most=3432)), 3432)
        both = ("and", (("or", eight[1][:2]), ("many", 2, ("or", eight[1][2:4]))))
        self.assertEqual(len(all_served(both, (GREAT,) * 4, 20)), 21 * 41)

    def test_great(self):
        started = time.monotonic()
        demand = (GREAT,) * 8
        # All tuples of eight numbers that sum to 1200.
        count = 1
        for k in range(1, 8):
            count = count * (1200 + k) // k
        self.assertEqual(count_served(SIXTY, demand, 20), count)
        self.fault(Refused, "wide", all_served, SIXTY, demand, 20, most=100000)
        self.assertIs(is_served_by(SIXTY, demand, (150,) * 8, 20), True)
        self.assertIs(is_served_by(SIXTY, demand, (150,) * 7 + (149,), 20), False)
        self.assertIs(is_served_by(SIXTY, demand, (150,) * 7 + (151,), 20), False)
        self.assertIs(is_served_by(SIXTY, (150,) * 7 + (149,), (150,) * 7 + (149,), 20), True)
        two = ("and", (("many", 60, ("or", SIXTY[2][1][:2])), ("many", 60, ("or", SIXTY[2][1][2:4]))))
        self.assertEqual(len(all_served(two, (GREAT, 7, GREAT, GREAT), 20, most=100000)), 8 * 1201)
        self.assertEqual(count_served(two, (GREAT,) * 4, 20), 1201 * 1201)
        self.assertLess(time.monotonic() - started, 30)

    def test_wrong_demands(self):
        for call, more in ((count_served, (None,)), (all_served, (None,)), (is_served_by, ((1, 1, 1), None))):
            for demand in strange_but(3):
                self.fault(InvalidPool, -1, call, FORMULA, demand, *more)
            for item in strange_numbers() + [GREAT + 1]:
                self.fault(InvalidPool, 1, call, FORMULA, (1, item, item), *more)

    def test_wrong_numbers(self):
        for many in strange_numbers() + [21, GREAT]:
            self.fault(InvalidNumber, "many", count_served, FORMULA, (1, 2, 4), many)
            self.fault(InvalidNumber, "many", all_served, FORMULA, (1, 2, 4), many, most=None)
            self.fault(InvalidNumber, "many", is_served_by, FORMULA, (1, 2, 4), (1, 1, 1), many)
            self.fault(InvalidNumber, "many", is_served_by, FORMULA, (1, 2, 4), None, many=many)
        for most in strange_numbers() + [0, 100001]:
            self.fault(InvalidNumber, "most", all_served, FORMULA, (1, 2, 4), 2, most=most)
        self.assertEqual(len(all_served(FORMULA, (1, 2, 4), 20, most=100000)), 1)
        with self.assertRaises(TypeError):
            all_served(FORMULA, (1, 2, 4), 2, 2000)

    def test_wrong_values(self):
        for value in STRANGE + ([1, 1, 1], (1, 1), (1, 1, 1, 1), (True, 1, 1), (1, 1.0, 1), (1, 1, None), (1, -1, 1), (2, 1, 1),
                                (1, 3, 1), (Stubborn(), 1, 1), (1, 1, Stubborn()), "111", (1, 1, GREAT + 1)):
            self.assertIs(is_served_by(FORMULA, (1, 2, 4), value), False)
            self.assertIs(is_served_by(FORMULA, (1, 2, 4), value, many=20), False)


if __name__ == "__main__":
    unittest.main()
