"""[86] One way less, one way more, and what stands before [85]."""

import itertools
import random
import unittest

from asmany.errors import Refused
from asmany.formulas import check_formula, normal
from asmany.neighbours import formula_with, formula_without, may_come, may_go, stems
from asmany.shows import read_formula, show_formula
from plain import STRANGE, Case, Stubborn, all_normal_formulas, boxes, formula_ways, named, some_formulas, stories
from plain import within

A, B, C, D, E, F, G, H = EIGHT = tuple(("kind", name) for name in "abcdefgh")
FORMULA = read_formula("d and (c or 2 of (a or b))")
SIXTY = ("many", 60, ("or", EIGHT))


NESTED = (
    "d and (c or (a and b))", "a and (b or (c and (d or e)))", "a or (b and (c or (d and e)))",
    "a and b and (c or (2 of d and (e or f)))", "a and (b or (2 of (c or d) and e))", "c and b and 2 of a",
    "a and (b or 2 of (c or (d and e)))", "(a or b) and (c or (d and e))", "a and (2 of b or (2 of c and 4 of d))",
    "2 of (a or (b and (c or d)))", "2 of ((a and (b or c)) or d)", "3 of (a or b)", "2 of (a or b or c)", "4 of (a or b)",
    "2 of ((a and 2 of b) or 3 of c)", "a and (2 of (b or c) or (d and 2 of (e or f)))",
    "2 of a and (2 of b or (3 of c and (2 of d or 4 of e)))", "a and (b or (c and d) or (e and (f or g)))",
)


def bundle(kinds, way):
    return tuple((kind, amount) for kind, amount in zip(kinds, way) if amount)


def is_even(ways):
    """Whether ways are a book without a story."""
    if any(within(one, other) for one, other in itertools.permutations(ways, 2)):
        return False
    return not stories(ways)


def small_formulas(seed, most=14):
    """Formulas with few ways: all of two kinds, and some of more."""
    found = [read_formula(text) for text in NESTED]
    found += all_normal_formulas("ab", 4) + all_normal_formulas("abc", 2)[::4] + some_formulas(seed, 150, kinds=5, top=4)
    return [formula for formula in found if len(formula_ways(formula, named(formula))) <= most]


class Neighbours(Case):

    def check_formula(self, found, kinds, ways):
        """Check that a formula has the ways, on the kinds that they use."""
        used = [k for k in range(len(kinds)) if any(way[k] for way in ways)]
        self.assertIsNone(check_formula(found))
        self.assertEqual(normal(found), found)
        self.assertEqual(named(found), tuple(kinds[k] for k in used))
        self.assertEqual(formula_ways(found, named(found)), {tuple(way[k] for k in used) for way in ways})

    def test_examples(self):
        self.assertEqual(may_go(formula=FORMULA), ((("a", 1), ("b", 1), ("d", 1)), (("c", 1), ("d", 1))))
        self.assertEqual(stems(formula=FORMULA), ((), (("d", 1),)))
        self.assertEqual(may_come(formula=read_formula("4 of a or 2 of b")), ((("a", 2), ("b", 1)),))
        both = read_formula("2 of a or 2 of b or (c and (2 of d or 2 of e))")
        self.assertEqual(may_come(both), ((("a", 1), ("b", 1)), (("c", 1), ("d", 1), ("e", 1))))
        self.assertEqual(show_formula(formula_with(formula=FORMULA, bundle=(("d", 1), ("e", 7)))),
                         "(2 of (a or b) or c or 7 of e) and d")
        self.assertEqual(show_formula(formula_without(formula=FORMULA, bundle=(("a", 1), ("b", 1), ("d", 1)))),
                         "(2 of a or 2 of b or c) and d")
        self.assertEqual(show_formula(formula_without(FORMULA, (("c", 1), ("d", 1)))), "2 of (a or b) and d")
        self.assertEqual(formula_with(read_formula("4 of a or 2 of b"), (("a", 2), ("b", 1))),
                         read_formula("2 of (2 of a or b)"))

    def test_one_way(self):
        for text in ("a", "60 of a", "a and b", "2 of a and 3 of b and c"):
            formula = read_formula(text)
            self.assertEqual(may_go(formula), ())
            self.assertEqual(may_come(formula), ())
            for part in ((("a", 1),), (("a", 1), ("b", 1)), (("a", 60),)):
                self.assertIsNone(formula_without(formula, part))
                self.assertIsNone(formula_with(formula, part))
        self.assertEqual(stems(A), ((),))
        self.assertEqual(stems(read_formula("a and 2 of b")), ((), (("a", 1),), (("b", 2),)))
        self.assertEqual(formula_with(A, (("e", 60),)), read_formula("a or 60 of e"))

    def test_goings(self):
        told = [0, 0]
        for formula in small_formulas(860):
            kinds = named(formula)
            ways = sorted(formula_ways(formula, kinds))
            right = []
            for at, way in enumerate(ways):
                rest = ways[:at] + ways[at + 1:]
                goes = bool(rest) and is_even(rest)
                self.assertIs(goes, len(ways) > 1 and self.may_go_by_kinds(ways, way))
                told[goes] += 1
                found = formula_without(formula, bundle(kinds, way))
                if goes:
                    right.append(bundle(kinds, way))
                    self.check_formula(found, kinds, rest)
                else:
                    self.assertIsNone(found)
            self.assertEqual(may_go(formula), tuple(sorted(right)))
        self.assertGreater(min(told), 100)

    def may_go_by_kinds(self, ways, way):
        """Whether a way uses a kind alone, or beside just one other way that takes twice as much."""
        for k, amount in enumerate(way):
            others = [other[k] for other in ways if other != way and other[k]]
            if amount and others in ([], [2 * amount]):
                return True
        return False

    def test_comings(self):
        some = 0
        for formula in small_formulas(861, most=9) + [read_formula(text) for text in (
                "4 of a or 2 of b or 6 of c or d", "e and (2 of a or (2 of b and 4 of c) or 2 of d)",
                "x and (y or (z and (2 of a or 2 of b)))", "2 of (2 of a or 2 of b)", "2 of a or 2 of b or (c and d)")]:
            kinds = named(formula)
            ways = sorted(formula_ways(formula, kinds))
            tops = [min(max(way[k] for way in ways) + 1, 5) for k in range(len(kinds))]
            halves = self.halves(ways)
            if (max(tops) + 1) ** len(kinds) > 700:
                tops = [1] * len(kinds)
            right = []
            for row in [*boxes(tops), *halves]:
                if any(row) and is_even([*ways, row]):
                    right.append(bundle(kinds, row))
                    self.assertIn(row, halves)
                    self.check_formula(formula_with(formula, bundle(kinds, row)), kinds, [*ways, row])
                elif any(row):
                    self.assertIsNone(formula_with(formula, bundle(kinds, row)))
            self.assertEqual(may_come(formula), tuple(sorted(set(right))))
            some += len(right)
        self.assertGreater(some, 15)

    def halves(self, ways):
        """The halves, if whole, of sums of two ways that take unequal amounts just of kinds of one way alone."""
        found = []
        for one, other in itertools.combinations(ways, 2):
            unequal = [k for k, (x, y) in enumerate(zip(one, other)) if x != y]
            alone = all(sum(way[k] > 0 for way in ways) == 1 for k in unequal)
            if alone and not any((x + y) % 2 for x, y in zip(one, other)):
                found.append(tuple((x + y) // 2 for x, y in zip(one, other)))
        return found

    def test_stems(self):
        told = [0, 0]
        chance = random.Random(86)
        for formula in small_formulas(862, most=9):
            kinds = named(formula)
            ways = sorted(formula_ways(formula, kinds))
            tops = [min(max(way[k] for way in ways), 4) for k in range(len(kinds))]
            right = []
            for row in itertools.islice(boxes(tops), 500):
                more = tuple(chance.randint(1, 3) for _ in range(chance.randint(1, min(2, 8 - len(kinds)))))
                wide = [way + (0,) * len(more) for way in ways] + [row + more]
                further = tuple(zip("xyz", more))
                found = formula_with(formula, bundle(kinds, row) + further)
                comes = is_even(wide)
                self.assertIs(comes, self.is_stem(ways, row))
                told[comes] += 1
                if comes:
                    right.append(bundle(kinds, row))
                    self.check_formula(found, kinds + tuple("xyz"[:len(more)]), wide)
                else:
                    self.assertIsNone(found)
            if len(list(itertools.islice(boxes(tops), 501))) <= 500 and max(max(way) for way in ways) <= 4:
                self.assertEqual(stems(formula), tuple(sorted(right)))
        self.assertGreater(min(told), 200)

    def is_stem(self, ways, row):
        """Whether a row is within a way, and what the document says of the ways that it is within."""
        above = [way for way in ways if within(row, way)]
        others = [way for way in ways if not within(row, way)]
        if not above or any(x != y for way in above for x, y in zip(row, way) if x):
            return False
        for way in above:
            further = [k for k, (x, y) in enumerate(zip(row, way)) if y and not x]
            if not further or any(other[k] for other in others for k in further):
                return False
        return True

    def test_names_between(self):
        """Kinds that come stand in their order among the others."""
        formula = read_formula("(b and d) or g")
        self.assertEqual(show_formula(formula_with(formula, (("a", 2), ("b", 1)))), "((2 of a or d) and b) or g")
        self.assertEqual(formula_with(formula, (("a", 2), ("b", 1), ("c", 1))),
                         read_formula("(((2 of a and c) or d) and b) or g"))
        self.assertEqual(formula_with(formula, (("a", 2), ("zz", 60))), read_formula("(2 of a and 60 of zz) or (b and d) or g"))

    def test_many_ways(self):
        self.assertEqual((may_go(SIXTY), may_come(SIXTY), stems(SIXTY)), ((), (), ((),)))
        wide = ("many", 60, ("or", EIGHT[:5]))
        formula = ("and", (("or", (wide, F, ("many", 4, G))), H))
        self.assertEqual(may_go(formula), ((("f", 1), ("h", 1)), (("g", 4), ("h", 1))))
        self.assertEqual(formula_without(formula, (("f", 1), ("h", 1))), ("and", (("or", (wide, ("many", 4, G))), H)))
        self.assertEqual(stems(formula), ((), (("h", 1),)))
        self.assertIsNone(formula_without(formula, (("a", 60), ("h", 1))))
        self.assertIsNone(formula_with(formula, (("a", 60), ("h", 1))))
        self.fault(Refused, "wide", formula_with, formula, (("h", 1), ("z", 60)))
        seven = ("and", (("or", (wide, ("many", 2, F))), G))
        self.assertEqual(formula_with(seven, (("g", 1), ("z", 60))), (
            "and", (("or", (wide, ("many", 2, F), ("many", 60, ("kind", "z")))), G)))
        self.assertEqual(may_come(("or", (wide, ("many", 2, F), ("many", 60, H)))), ((("f", 1), ("h", 30)),))
        deep = ("and", (A, B, C, D, E, F, G))
        self.assertEqual(len(stems(deep)), 127)
        self.assertEqual(len(stems(("and", (A, B, C, D, E, F, ("or", (G, H)))))), 64)

    def test_forms_that_are_not_normal(self):
        for formula in some_formulas(863, 150, kinds=6, top=4):
            self.assertEqual(may_go(formula), may_go(normal(formula)))
            self.assertEqual(may_come(formula), may_come(normal(formula)))
            self.assertEqual(stems(formula), stems(normal(formula)))
            for one in may_go(formula):
                rest = formula_without(formula, one)
                self.assertEqual(rest, formula_without(normal(formula), one))
                self.assertEqual(normal(rest), rest)
                # What has gone may come again.
                self.assertEqual(formula_with(rest, one), normal(formula))
            for one in may_come(formula):
                self.assertEqual(formula_without(formula_with(formula, one), one), normal(formula))

    def test_no_bundles(self):
        wrong = STRANGE + ((("a", 1), ("a", 1)), (("b", 1), ("a", 1)), (("a", 0),), (("a", 61),), (("a", True),),
                           (("A", 1),), [("c", 1), ("d", 1)], (["c", 1], ["d", 1]), {"c": 1}, (("c", 1, 1),), ("c", 1),
                           (("c", 1), ("d", None)), (Stubborn(), ("d", 1)), (("c", Stubborn()),),
                           tuple((name, 0) for name in "abcdefghi"))
        for value in wrong:
            self.assertIsNone(formula_without(FORMULA, value))
            self.assertIsNone(formula_with(FORMULA, value))
        for value in ((("a", 2), ("d", 1)), (("c", 1),), (("c", 1), ("d", 1), ("e", 1)), (("c", 2), ("d", 1))):
            self.assertIsNone(formula_without(FORMULA, value))
            self.assertIsNone(formula_with(FORMULA, value))

    def test_ninth_kind(self):
        self.fault(Refused, "wide", formula_with, FORMULA, tuple((name, 1) for name in "efghi"))
        self.fault(Refused, "wide", formula_with, FORMULA, tuple((name, 1) for name in "aefghi"))
        self.assertEqual(len(named(formula_with(FORMULA, tuple((name, 1) for name in "efgh")))), 8)
        self.assertIsNone(formula_with(FORMULA, tuple((name, 1) for name in "aefgh")))
        self.assertIsNone(formula_without(FORMULA, tuple((name, 1) for name in "efghi")))
        self.fault(Refused, "wide", formula_with, SIXTY, (("i", 1),))
        self.fault(Refused, "wide", formula_with, A, tuple((name, 1) for name in "abcdefghi"))
        self.assertIsNone(formula_with(SIXTY, (("a", 1),)))

    def test_nested_stems(self):
        formula = read_formula("d and (c or (a and b))")
        self.assertEqual(stems(formula), ((), (("a", 1), ("d", 1)), (("b", 1), ("d", 1)), (("d", 1),)))
        for one, text in (((), "(((a and b) or c) and d) or e"), ((("a", 1), ("d", 1)), "((a and (b or e)) or c) and d"),
                          ((("b", 1), ("d", 1)), "(((a or e) and b) or c) and d"), ((("d", 1),), "((a and b) or c or e) and d")):
            self.assertEqual(show_formula(formula_with(formula, one + (("e", 1),))), text)


if __name__ == "__main__":
    unittest.main()
