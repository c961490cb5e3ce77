"""[34], [35]: least pools and plans."""

import random
import unittest

from asmany.errors import InvalidNumber, InvalidPool, Refused
from asmany.pieces import pieces
from asmany.plans import count_least_pools, is_plan, least_pools, plan_for, plan_size
from plain import STRANGE, Case, Stubborn, boxes, formula_ways, least, lengths, named, plus, some_formulas
from plain import strange_numbers, within

A, B, C, D, E, F, G, H = EIGHT = tuple(("kind", name) for name in "abcdefgh")
FORMULA = ("many", 2, ("or", (A, ("and", (B, C)))))
GREAT = 10 ** 18


def all_sums(ways, number):
    """All sums of so many ways."""
    found = {(0,) * len(ways[0])}
    for _ in range(number):
        found = {plus(one, way) for one in found for way in ways}
    return found


class LeastPools(Case):

    def test_examples(self):
        self.assertEqual(least_pools(FORMULA, 1), ((0, 2, 2), (1, 1, 1), (2, 0, 0)))
        self.assertEqual(least_pools(formula=FORMULA, many=0), ((0, 0, 0),))
        self.assertEqual(count_least_pools(formula=FORMULA, many=0), 1)
        self.assertEqual(count_least_pools(FORMULA, 20), 41)
        self.assertEqual(least_pools(A, 20, most=1), ((20,),))
        self.assertRaises(TypeError, least_pools, A, 2, 2000)

    def test_many(self):
        for formula in some_formulas(340, 150, kinds=4, top=4):
            kinds = named(formula)
            ways = sorted(formula_ways(formula, kinds))
            for many in range(4):
                if len(ways) ** many > 3000:
                    break
                sums = tuple(sorted(all_sums(ways, many)))
                self.assertEqual(least_pools(formula, many, most=100000), sums)
                self.assertEqual(count_least_pools(formula, many), len(sums))
                self.assertEqual({pieces(formula, pool) for pool in sums}, {many})

    def test_least(self):
        """By the definition: the least ones of all pools with so many pieces or more."""
        for formula in some_formulas(341, 60, kinds=3, top=3):
            kinds = named(formula)
            ways = sorted(formula_ways(formula, kinds))
            known = {}
            for many in (1, 2):
                top = many * max(map(max, ways))
                if (top + 1) ** len(kinds) < 800:
                    enough = [pool for pool in boxes((top,) * len(kinds)) if lengths(ways, pool, known)[0] >= many]
                    self.assertEqual(least_pools(formula, many), least(enough))

    def test_numbers_of_pools(self):
        two = ("many", 60, ("or", (A, B)))
        self.assertEqual(count_least_pools(two, 20), 1201)
        self.assertEqual(least_pools(two, 20), tuple((x, 1200 - x) for x in range(1201)))
        three = ("many", 60, ("or", (A, B, C)))
        self.assertEqual(count_least_pools(three, 20), 1202 * 1201 // 2)
        self.fault(Refused, "wide", least_pools, three, 20, most=100000)
        wide = ("many", 60, ("or", EIGHT))
        self.assertEqual(count_least_pools(wide, 1), 869648208)
        self.assertEqual(count_least_pools(wide, 20) % 10 ** 6, self.choose(1207, 7) % 10 ** 6)
        self.assertEqual(count_least_pools(("and", tuple(("many", 60, kind) for kind in EIGHT)), 20), 1)
        # 446 * 447 / 2 pools, about the most there may be
        deep = ("or", (A, ("and", (B, ("many", 10, ("or", (C, D)))))))
        count = count_least_pools(deep, 20)
        self.assertEqual(count, sum(10 * number + 1 for number in range(21)))
        self.assertEqual(len(least_pools(deep, 20, most=count)), count)
        self.fault(Refused, "wide", least_pools, deep, 20, most=count - 1)
        self.assertEqual(least_pools(deep, 20, most=count + 1), tuple(sorted(least_pools(deep, 20, most=100000))))

    def choose(self, n, k):
        number = 1
        for at in range(k):
            number = number * (n - at) // (at + 1)
        return number

    def test_a_hundred_thousand(self):
        formula = ("and", (("many", 15, ("or", (A, B))), ("many", 15, ("or", (C, D)))))
        count = count_least_pools(formula, 20)
        self.assertEqual(count, 301 * 301)
        found = least_pools(formula, 20, most=count)
        self.assertEqual(len(found), count)
        self.assertEqual(list(found), sorted(found))
        self.fault(Refused, "wide", least_pools, formula, 20)
        self.fault(Refused, "wide", least_pools, formula, 20, most=count - 1)

    def test_errors(self):
        for value in strange_numbers() + [21, 10 ** 30]:
            self.fault(InvalidNumber, "many", least_pools, FORMULA, value, most=None)
            self.fault(InvalidNumber, "many", count_least_pools, FORMULA, value)
        wide = ("many", 60, ("or", EIGHT))
        for value in strange_numbers() + [0, 100001, 10 ** 30]:
            self.fault(InvalidNumber, "most", least_pools, wide, 20, most=value)


class Plans(Case):

    def size(self, formula):
        if formula[0] == "kind":
            return 1
        if formula[0] == "many":
            return 2 * self.size(formula[2]) - 1
        sizes = list(map(self.size, formula[1]))
        return sum(sizes) - (len(sizes) - 1 if formula[0] == "and" else 0)

    def check(self, formula, pool, many):
        found = plan_for(formula, pool, many)
        self.assertIsInstance(found, tuple)
        kinds = named(formula)
        total = (0,) * len(kinds)
        for way, number in found:
            self.assertGreater(number, 0)
            self.assertTrue(self.is_way(formula, kinds, way))
            total = plus(total, tuple(number * amount for amount in way))
        self.assertEqual([way for way, _ in found], sorted({way for way, _ in found}))
        self.assertEqual(sum(number for _, number in found), many)
        self.assertTrue(within(total, pool))
        self.assertLessEqual(len(found), plan_size(formula))
        self.assertIs(is_plan(formula, pool, found), True)
        return found

    def is_way(self, formula, kinds, way):
        key = repr(formula)
        if key not in self.known:
            self.known[key] = formula_ways(formula, kinds)
        return way in self.known[key]

    def setUp(self):
        self.known = {}

    def test_examples(self):
        self.assertEqual(plan_for(FORMULA, (GREAT, 0, 5), 10 ** 17), (((2, 0, 0), 10 ** 17),))
        self.assertEqual(plan_size(formula=FORMULA), 3)
        self.assertEqual(plan_for(formula=FORMULA, pool=(1, 1, 1), many=0), ())
        self.assertEqual(plan_for(FORMULA, (1, 1, 1), 1), (((1, 1, 1), 1),))
        self.assertIs(is_plan(formula=FORMULA, pool=(3, 1, 1), value=(((1, 1, 1), 1), ((2, 0, 0), 1))), True)
        self.assertIs(is_plan(FORMULA, (3, 1, 1), ()), True)
        self.assertEqual(plan_size(("and", (("or", EIGHT[:4]), ("many", 2, ("or", EIGHT[4:]))))), 4 + 7 - 1)

    def test_many(self):
        chance = random.Random(35)
        for formula in some_formulas(350, 200, kinds=5, top=8):
            self.assertEqual(plan_size(formula), self.size(formula))
            if len(formula_ways(formula, named(formula))) > 3000:
                continue
            for _ in range(4):
                top = chance.choice((3, 9, 40, GREAT))
                pool = tuple(chance.randint(0, top) for _ in named(formula))
                most = pieces(formula, pool)
                for many in {0, min(1, most), most // 3, max(most - 1, 0), most}:
                    self.check(formula, pool, many)
                self.fault(InvalidNumber, "many", plan_for, formula, pool, most + 1)

    def test_great(self):
        """Nested numbers, and amounts that leave a remainder at each of them."""
        formula = ("many", 2, ("or", (A, ("many", 2, ("or", (B, ("and", (C, ("many", 5, ("or", (D, E)))))))))))
        for pool in ((GREAT,) * 5, (7, GREAT - 1, 3 * 10 ** 17, 123456789012345678, 10 ** 17 + 3), (1, 1, 1, 5, 0)):
            self.check(formula, pool, pieces(formula, pool))

    def all_plans(self, ways, pool, sizes):
        """All plans, by a plain walk."""
        found = []

        def add(at, plan, rest):
            if at == len(ways):
                found.append(tuple(plan))
                return
            for number in range(sizes + 1):
                left = tuple(x - number * y for x, y in zip(rest, ways[at]))
                if min(left) >= 0:
                    add(at + 1, plan + ([(ways[at], number)] if number else []), left)

        add(0, [], pool)
        return found

    def test_which_are_plans(self):
        for formula in some_formulas(351, 40, kinds=3, top=2):
            ways = sorted(formula_ways(formula, named(formula)))
            pool = (3,) * len(named(formula))
            plans = self.all_plans(ways, pool, 3)
            for plan in plans:
                self.assertIs(is_plan(formula, pool, plan), True)
            for way in ways:
                for number in range(1, 6):
                    value = ((way, number),)
                    self.assertIs(is_plan(formula, pool, value), value in plans)
                    for other in ways:
                        value = ((way, number), (other, 1))
                        self.assertIs(is_plan(formula, pool, value), value in plans)

    def test_no_plans(self):
        way = (1, 1, 1)
        pool = (9, 9, 9)
        wrong = STRANGE + (
            [(way, 1)], ((way,),), ((way, 1, 1),), ([way, 1],), ((list(way), 1),), ((way, 0),), ((way, -1),),
            ((way, True),), ((way, 1.0),), ((way, None),), ((way, "1"),), (way, 1), (((1, 1, 0), 1),), (((1, 1), 1),),
            (((2, 2, 2), 1),), ((way, 1), (way, 1)), ((way, 1), ((0, 2, 2), 1)), ((way, 10),), {way: 1},
            (((True, 1, 1), 1),), ((way, 10 ** 40),), (((0, 0, 0), 1),), ((Stubborn(), 1),), ((way, Stubborn()),),
            ((way, 1), None),
        )
        for value in wrong:
            if value.__class__ is not tuple or len(value):
                self.assertIs(is_plan(FORMULA, pool, value), False)
        self.assertIs(is_plan(FORMULA, pool, (((0, 2, 2), 1), (way, 1))), True)

    def test_errors(self):
        for pool in STRANGE + ((1, 1), [1, 1, 1], "abc", (1, 1, 1, 1)):
            if pool.__class__ is not tuple or len(pool) != 3:
                self.fault(InvalidPool, -1, plan_for, FORMULA, pool, None)
                self.fault(InvalidPool, -1, is_plan, FORMULA, pool, None)
        for item in strange_numbers() + [GREAT + 1]:
            self.fault(InvalidPool, 1, plan_for, FORMULA, (1, item, item), None)
            self.fault(InvalidPool, 1, is_plan, FORMULA, (1, item, item), ())
        for many in strange_numbers() + [1, 10 ** 30]:
            self.fault(InvalidNumber, "many", plan_for, FORMULA, (1, 0, 7), many)


if __name__ == "__main__":
    unittest.main()
