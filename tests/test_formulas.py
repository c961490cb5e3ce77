"""[17], [21], [22]: formulas, sizes and meetings, normal formulas."""

import itertools
import unittest
from fractions import Fraction

from asmany.errors import InvalidFormula
from asmany.formulas import check_formula, kinds_of, meeting, normal, sizes_of
from plain import STRANGE, Case, Stubborn, formula_ways, named, nested, some_formulas

A, B, C, D, E, F, G, H, I = [("kind", name) for name in "abcdefghi"]
EIGHT = (A, B, C, D, E, F, G, H)


def is_normal(formula):
    """Whether a formula is normal, by the definition."""
    if formula[0] == "kind":
        return True
    if formula[0] == "many":
        return formula[2][0] in ("kind", "or") and is_normal(formula[2])
    firsts = [named(part)[0] for part in formula[1]]
    return firsts == sorted(firsts) and all(
        part[0] != formula[0] and is_normal(part) for part in formula[1]
    )


def row(word, names):
    """A formula with a part in a part in a part .., each one last."""
    formula = ("kind", names[-1])
    for name in reversed(names[:-1]):
        formula = (word, (("kind", name), formula))
    return formula


class Formulas(Case):

    def test_formulas(self):
        for formula in (
            A, ("kind", "zzzzz"), ("and", (A, B)), ("or", EIGHT), ("many", 60, A), ("many", 2, ("or", (B, A))),
            ("many", 2, ("many", 30, A)), ("many", 60, ("and", EIGHT)), row("and", "abcdefgh"), row("or", "hgfedcba"),
            ("or", (("many", 60, A), ("many", 59, B))), ("kind", "and"), ("kind", "kind"),
            ("many", 2, ("many", 2, ("many", 3, ("many", 5, A)))),
        ):
            self.assertIsNone(check_formula(formula))
        self.assertIsNone(check_formula(value=A))
        for formula in some_formulas(80, 200, kinds=8, top=60):
            self.assertIsNone(check_formula(formula))

    def test_wrong_forms(self):
        wrong = (
            ("kind",), ("kind", "A"), ("kind", ""), ("kind", "aaaaaa"), ("kind", "a", "b"), ("kind", 1), ("kind", A),
            ["kind", "a"], ("and", A, B), ("and", (A,)), ("and", ()), ("or", (A,)), ("and", [A, B]),
            ("or", {A: 1, B: 2}),
            ("and", (A, B), 2), ("and",), ("or",), ("many", 1, A), ("many", 0, A), ("many", 61, A), ("many", True, A),
            ("many", 2.0, A), ("many", "2", A), ("many", 2), ("many", A, 2), ("many", 2, A, B), ("and", 2, A),
            ("kind", 2, A), ("a", 2, A), ("xor", (A, B)), ("a", "b"),
            ("And", (A, B)), (b"kind", "a"), ("kind", Stubborn()), (Stubborn(), "a"), ("many", Stubborn(), A),
            ("and", Stubborn()), "kind", {"kind": "a"}, (("kind", "a"),), ("kind", ("a",)), ("many", None, A),
            ("kind", "a\n"),
        )
        for value in wrong + STRANGE:
            self.fault(InvalidFormula, 0, check_formula, value)
            self.fault(InvalidFormula, 1, check_formula, ("and", (value, A)))
            self.fault(InvalidFormula, 2, check_formula, ("or", (A, value)))
            self.fault(InvalidFormula, 1, check_formula, ("many", 2, value))
            self.fault(InvalidFormula, 4, check_formula, ("and", (("many", 2, ("or", (A, value))), A, None)))
            self.fault(InvalidFormula, 5, check_formula, ("and", (("many", 2, ("or", (A, B))), value, None)))

    def test_named_twice_and_ninth(self):
        self.fault(InvalidFormula, 2, check_formula, ("and", (A, A)))
        self.fault(InvalidFormula, 5, check_formula, ("and", (A, ("many", 2, ("or", (B, A))))))
        self.fault(InvalidFormula, 3, check_formula, ("or", (A, B, A, B)))
        self.fault(InvalidFormula, 9, check_formula, ("or", EIGHT + (I,)))
        self.fault(InvalidFormula, 9, check_formula, ("or", EIGHT + (A,)))
        self.fault(InvalidFormula, 10, check_formula, ("or", EIGHT[:7] + (("and", (H, I)),)))
        self.fault(InvalidFormula, 10, check_formula, ("or", EIGHT + (("and", (I, None)),)))
        self.fault(InvalidFormula, 9, check_formula, ("or", EIGHT + (None, I)))

    def test_eighth_joint(self):
        self.fault(InvalidFormula, 14, check_formula, row("and", "abcdefghi"))
        formula = None
        for word in ("and", "or") * 4:
            formula = (word, (formula, None))
        self.fault(InvalidFormula, 7, check_formula, formula)
        seven = A
        for kind in EIGHT[1:]:
            seven = ("and", (seven, kind))
        self.assertIsNone(check_formula(seven))
        self.fault(InvalidFormula, 0, check_formula, ("and", [seven]))
        self.fault(InvalidFormula, 7, check_formula, ("or", (seven, I)))

    def test_products(self):
        self.fault(InvalidFormula, 1, check_formula, ("many", 2, ("many", 31, A)))
        self.fault(InvalidFormula, 3, check_formula, ("many", 7, ("or", (A, ("many", 9, B)))))
        self.fault(InvalidFormula, 4, check_formula, ("many", 3, ("or", (A, ("many", 4, ("many", 6, B))))))
        self.assertIsNone(check_formula(("many", 3, ("or", (A, ("many", 4, ("many", 5, B)))))))
        self.assertIsNone(check_formula(("and", (("many", 60, A), ("many", 60, B)))))
        self.fault(InvalidFormula, 5, check_formula, ("many", 2, ("many", 2, ("many", 2, ("many", 2, ("many", 2, (
            "many", 2, A)))))))
        self.fault(InvalidFormula, 1, check_formula, ("many", 2, ("many", 31, None)))

    def test_deep(self):
        formula = A
        for _ in range(20000):
            formula = ("and", (B, formula))
        self.fault(InvalidFormula, 3, check_formula, formula)
        for _ in range(20000):
            formula = ("many", 2, formula)
        self.fault(InvalidFormula, 5, check_formula, formula)
        self.fault(InvalidFormula, 0, check_formula, nested(20000))
        self.fault(InvalidFormula, 9, check_formula, ("or", EIGHT + (I,) * 100000))

    def test_kinds(self):
        self.assertEqual(kinds_of(("and", (C, ("many", 2, ("or", (B, A)))))), ("a", "b", "c"))
        self.assertEqual(kinds_of(formula=("kind", "x")), ("x",))
        self.assertEqual(kinds_of(("or", EIGHT[::-1])), tuple("abcdefgh"))


class SizesAndMeetings(Case):

    def test_examples(self):
        formula = ("and", (("many", 4, ("or", (A, ("many", 5, ("or", (B, C)))))), ("many", 3, D)))
        self.assertEqual(sizes_of(formula), {"a": 4, "b": 20, "c": 20, "d": 3})
        self.assertEqual(sizes_of(formula=A), {"a": 1})
        self.assertEqual(meeting(formula, "a", "c"), 4)
        self.assertEqual(meeting(formula, "c", "b"), 20)
        self.assertEqual(meeting(formula, one="d", other="b"), 0)
        self.assertEqual(meeting(other="a", formula=("or", (A, B)), one="b"), 1)
        self.assertEqual(meeting(("many", 3, ("and", (A, B))), "a", "b"), 0)
        self.assertEqual(meeting(("many", 6, ("many", 10, ("or", (A, B)))), "a", "b"), 60)

    def test_new_dicts(self):
        sizes_of(A)["a"] = 7
        self.assertEqual(sizes_of(A), {"a": 1})

    def test_the_ways_alone_tell(self):
        unlike = set()
        for formula in some_formulas(81, 250, kinds=4, top=6):
            kinds = named(formula)
            ways = formula_ways(formula, kinds)
            sizes = sizes_of(formula)
            self.assertEqual(tuple(sizes.values()), tuple(max(way[k] for way in ways) for k in range(len(kinds))))
            self.assertEqual(sorted(sizes), list(kinds))
            for i, j in itertools.permutations(range(len(kinds)), 2):
                number = meeting(formula, kinds[i], kinds[j])
                p, q = sizes[kinds[i]], sizes[kinds[j]]
                pairs = {(way[i], way[j]) for way in ways}
                self.assertIs((p, q) in pairs, number == 0)
                unlike.add(number)
                if number:
                    sums = {pair: Fraction(pair[0], p) + Fraction(pair[1], q) for pair in pairs}
                    self.assertLessEqual(max(sums.values()), 1)
                    full = {pair for pair in pairs if sums[pair] == 1}
                    self.assertEqual(full, {
                        (Fraction(k * p, number), Fraction((number - k) * q, number)) for k in range(number + 1)
                    })
        self.assertGreater(len(unlike), 4)


class NormalFormulas(Case):

    def test_examples(self):
        # 2 of (c and 3 of (b or a) and (d and 2 of e))
        formula = ("many", 2, ("and", (C, ("many", 3, ("or", (B, A))), ("and", (D, ("many", 2, E))))))
        self.assertEqual(normal(formula), (
            "and", (("many", 6, ("or", (A, B))), ("many", 2, C), ("many", 2, D), ("many", 4, E))
        ))
        self.assertEqual(normal(formula=A), A)
        self.assertEqual(normal(("many", 2, ("many", 3, A))), ("many", 6, A))
        self.assertEqual(normal(("or", (("or", (D, A)), ("and", (C, B))))), ("or", (A, ("and", (B, C)), D)))
        self.assertEqual(normal(("or", (B, ("many", 2, ("or", (C, A)))))), ("or", (("many", 2, ("or", (A, C))), B)))

    def test_many(self):
        for formula in some_formulas(82, 300, kinds=5, top=6):
            found = normal(formula)
            kinds = named(formula)
            self.assertIsNone(check_formula(found))
            self.assertTrue(is_normal(found))
            self.assertEqual(named(found), kinds)
            self.assertEqual(formula_ways(found, kinds), formula_ways(formula, kinds))
            self.assertEqual(normal(found), found)
            self.assertEqual(found == formula, is_normal(formula))

    def test_exactly_one(self):
        by_kinds = {}
        for formula in some_formulas(83, 500, kinds=3, top=4):
            kinds = named(formula)
            told = (
                frozenset(formula_ways(formula, kinds)), normal(formula),
                (tuple(sizes_of(formula).items()),
                 tuple(meeting(formula, *pair) for pair in itertools.combinations(kinds, 2))),
            )
            by_kinds.setdefault(kinds, []).append(told)
        same = 0
        for rows in by_kinds.values():
            for one, other in itertools.combinations(rows[:80], 2):
                self.assertIs(one[0] == other[0], one[1] == other[1])
                self.assertIs(one[0] == other[0], one[2] == other[2])
                same += one[0] == other[0]
        self.assertGreater(same, 20)


if __name__ == "__main__":
    unittest.main()
