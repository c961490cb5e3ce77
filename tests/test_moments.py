"""[46] Orders, and what stands before [44]."""

import itertools
import random
import unittest

from asmany.errors import InvalidNumber, InvalidRun, Refused
from asmany.moments import backlog, missing, totals
from asmany.pieces import pieces
from plain import STRANGE, Case, Stubborn, formula_ways, lengths, minus, named, plus, some_formulas
from plain import strange_numbers, within

A, B, C = [("kind", name) for name in "abc"]
FORMULA = ("and", (A, ("many", 2, ("or", (B, C)))))
COMINGS = ((2, 3, 0), (1, 0, 3))
GREAT = 10 ** 18


def all_backlogs(ways, comings, orders, pool, owed):
    """The rows of pieces not yet made, for all choices of ways, by a plain walk."""
    if not comings:
        return {()}
    pool = plus(pool, comings[0])
    owed += orders[0]
    found = set()
    rests = {pool}
    while owed and any(within(way, rest) for rest in rests for way in ways):
        rests = {minus(rest, way) for rest in rests for way in ways if within(way, rest)}
        owed -= 1
    for rest in rests:
        found |= {(owed, *row) for row in all_backlogs(ways, comings[1:], orders[1:], rest, owed)}
    return found


class Moments(Case):

    def test_examples(self):
        self.assertEqual(totals(formula=FORMULA, comings=COMINGS), (1, 3))
        self.assertEqual(backlog(formula=FORMULA, comings=COMINGS, orders=(2, 1)), (1, 0))
        self.assertEqual(missing(formula=FORMULA, comings=COMINGS, orders=(2, 1), kind="b"), 1)
        self.assertEqual(missing(FORMULA, COMINGS, (2, 1), "c"), 1)
        self.assertIsNone(missing(FORMULA, COMINGS, (3, 0), "c"))
        self.assertIsNone(missing(FORMULA, COMINGS, (4, 0), "c"))
        self.assertEqual(missing(FORMULA, COMINGS, (4, 0), "a"), None)
        self.assertEqual(missing(FORMULA, COMINGS, (0, 0), "a"), 0)
        self.assertEqual((totals(FORMULA, ()), backlog(FORMULA, (), ()), missing(FORMULA, (), (), "a")), ((), (), 0))
        nothing = ((0, 0, 0),) * 3
        self.assertEqual(totals(FORMULA, nothing), (0, 0, 0))
        self.assertEqual(backlog(FORMULA, nothing, (0, 2, 0)), (0, 2, 2))
        self.assertEqual(backlog(FORMULA, ((2, 3, 0), (0, 0, 0), (1, 0, 3)), (2, 0, 1)), (1, 1, 0))

    def test_great(self):
        self.assertEqual(totals(FORMULA, ((GREAT, 0, 0), (0, GREAT, GREAT))), (0, GREAT))
        self.assertEqual(backlog(FORMULA, ((GREAT, 0, 0), (0, GREAT, GREAT)), (GREAT, GREAT)), (GREAT, GREAT))
        self.assertEqual(missing(("many", 60, A), ((0,), (7,)), (GREAT, GREAT), "a"), 120 * GREAT - 7)
        self.assertEqual(totals(A, ((GREAT // 2,), (GREAT // 2,), (0,))), (GREAT // 2, GREAT, GREAT))
        self.fault(InvalidRun, 2, totals, A, ((GREAT // 2,), (GREAT // 2,), (1,)))
        comings = ((1, 1, 1),) * 3000
        self.assertEqual(totals(FORMULA, comings)[-1], 3000)
        self.assertEqual(backlog(FORMULA, comings, (2,) * 3000)[-1], 3000)
        self.assertIsNone(missing(FORMULA, comings, (2,) * 3000, "b"))

    def test_many(self):
        """Whatever ways are taken, these are the numbers, and nobody can have fewer at any moment."""
        chance = random.Random(46)
        for formula in some_formulas(460, 120, kinds=3, top=3):
            kinds = named(formula)
            ways = sorted(formula_ways(formula, kinds))
            for _ in range(3):
                count = chance.randint(1, 3)
                comings = tuple(tuple(chance.randint(0, 3) for _ in kinds) for _ in range(count))
                orders = tuple(chance.randint(0, 3) for _ in range(count))
                found = backlog(formula, comings, orders)
                self.assertEqual(all_backlogs(ways, comings, orders, (0,) * len(kinds), 0), {found})
                sums = list(itertools.accumulate(comings, plus))
                known = {}
                self.assertEqual(totals(formula, comings), tuple(lengths(ways, pool, known)[0] for pool in sums))
                # Not more can be made up to a moment than there are pieces from what came.
                for total, left, ordered in zip(totals(formula, comings), found, itertools.accumulate(orders)):
                    self.assertEqual(left, max(ordered - total, 0))
                for k, kind in enumerate(kinds):
                    self.check_missing(formula, comings, orders, k, kind)

    def check_missing(self, formula, comings, orders, k, kind):
        found = missing(formula, comings, orders, kind)
        for amount in range(30):
            first = comings[0][:k] + (comings[0][k] + amount,) + comings[0][k + 1:]
            if not any(backlog(formula, (first,) + comings[1:], orders)):
                self.assertEqual(found, amount)
                return
        self.assertIsNone(found)

    def test_wrong_comings(self):
        calls = ((totals, ()), (backlog, (None,)), (missing, (None, None)))
        for call, more in calls:
            for value in STRANGE + ([(1, 1, 1)], {(1, 1, 1): 1}, "abc"):
                if value.__class__ is not tuple:
                    self.fault(InvalidRun, -1, call, FORMULA, value, *more)
            wrong = STRANGE + ([1, 1, 1], (1, 1), (1, 1, 1, 1), (1, True, 1), (1, 1.0, 1), (1, None, 1), (1, -1, 1),
                               (1, GREAT + 1, 1), "111", (1, Stubborn(), 1), (Stubborn(),) * 3)
            for item in wrong:
                self.fault(InvalidRun, 0, call, FORMULA, (item, item), *more)
                self.fault(InvalidRun, 1, call, FORMULA, ((1, 1, 1), item, None), *more)
            self.fault(InvalidRun, 1, call, FORMULA, ((0, 1, GREAT), (GREAT, 1, 1), None), *more)
            self.fault(InvalidRun, 2, call, FORMULA, ((0, 1, GREAT), (GREAT, 1, 0), (1, 0, 0)), *more)

    def test_wrong_orders(self):
        wrong = [value for value in STRANGE if value.__class__ is not tuple or len(value) != 2]
        wrong += [[2, 1], (2,), (2, 1, 0), "21", {2: 1}]
        wrong += [(2, item) for item in strange_numbers() + [GREAT + 1]]
        for value in wrong:
            self.fault(InvalidNumber, "orders", backlog, FORMULA, COMINGS, value)
            self.fault(InvalidNumber, "orders", missing, FORMULA, COMINGS, value, None)
        self.assertEqual(backlog(FORMULA, COMINGS, (GREAT, 0)), (GREAT - 1, GREAT - 3))

    def test_wrong_kinds(self):
        for kind in STRANGE + ("d", "ab", "", ("a",), ["a"], b"a", 0):
            if kind.__class__ is not str or kind != "a":
                self.fault(Refused, "kind", missing, FORMULA, COMINGS, (9, 9), kind)
        self.assertEqual(pieces(FORMULA, (1, 1, 1)), 1)


if __name__ == "__main__":
    unittest.main()
