"""[30] Formulas of cut books."""

import unittest

from asmany.cuts import formula_lacking, formula_plenty
from asmany.errors import Refused
from asmany.formulas import check_formula, kinds_of, normal
from plain import STRANGE, Case, Stubborn, formula_ways, least, named, some_formulas, strange_but, subsets

A, B, C, D = [("kind", name) for name in "abcd"]
EIGHT = tuple("abcdefgh")


class Cuts(Case):

    def test_examples(self):
        formula = ("many", 2, ("or", (A, ("and", (B, C)))))
        self.assertEqual(formula_lacking(formula, ("c",)), ("many", 2, A))
        self.assertEqual(formula_plenty(formula, ("c",)), ("many", 2, ("or", (A, B))))
        self.assertEqual(formula_lacking(formula=formula, lot=("a",)), ("and", (("many", 2, B), ("many", 2, C))))
        self.assertIsNone(formula_plenty(formula=formula, lot=("a",)))
        self.assertIsNone(formula_lacking(formula, ("a", "b")))
        self.assertIsNone(formula_plenty(formula, ("b", "c")))
        self.assertIsNone(formula_lacking(A, ("a",)))
        self.assertIsNone(formula_plenty(A, ("a",)))
        for call in (formula_lacking, formula_plenty):
            self.assertEqual(call(("and", (B, ("and", (D, A)))), ()), ("and", (A, B, D)))

    def test_many_ways(self):
        wide = ("many", 30, ("or", tuple(("kind", kind) for kind in EIGHT[:7])))
        formula = ("and", (wide, ("many", 2, ("kind", "h"))))
        self.assertEqual(formula_lacking(formula, EIGHT[:5]), (
            "and", (("many", 30, ("or", (("kind", "f"), ("kind", "g")))), ("many", 2, ("kind", "h")))))
        self.assertEqual(formula_plenty(formula, ("h",)), wide)
        self.assertEqual(formula_plenty(formula, ("a",)), ("many", 2, ("kind", "h")))
        self.assertIsNone(formula_lacking(formula, ("h",)))
        self.assertIsNone(formula_lacking(formula, EIGHT))

    def test_refused(self):
        formula = ("or", (A, ("and", (B, C)), D))
        wrong = [value for value in strange_but(0) if value.__class__ is not tuple or len(value) > 1]
        wrong += [(None,), (True,), ((),), (Stubborn(),), ("b", "a"), ("a", "a"), ("e",), ("a", "e"), ["a"], {"a": 1},
                  ("a", None), ("A",), (("a",),), "ab"]
        for lot in wrong:
            for call in (formula_lacking, formula_plenty):
                self.fault(Refused, "lot", call, formula, lot)
        self.fault(Refused, "lot", formula_lacking, A, STRANGE[-1])

    def test_many(self):
        told = {"lacking": 0, "plenty": 0, "none": 0}
        for formula in some_formulas(130, 200, kinds=5, top=4):
            kinds = named(formula)
            ways = formula_ways(formula, kinds)
            for lot in subsets(kinds):
                inside = [k for k, kind in enumerate(kinds) if kind in lot]
                rest = [way for way in ways if not any(way[k] for k in inside)]
                told["none"] += self.check_cut(formula_lacking(formula, lot), kinds, rest)
                others = [k for k in range(len(kinds)) if k not in inside]
                rest = [tuple(way[k] if k in others else 0 for k in range(len(kinds))) for way in ways]
                told["none"] += self.check_cut(formula_plenty(formula, lot), kinds, rest if all(map(any, rest)) else [])
                told["lacking"] += formula_lacking(formula, lot) is not None
                told["plenty"] += formula_plenty(formula, lot) is not None
        self.assertGreater(min(told.values()), 100)

    def check_cut(self, found, kinds, rows):
        """Check that a formula has the least ones of the rows; True if there are none."""
        if not rows:
            self.assertIsNone(found)
            return True
        self.assertIsNone(check_formula(found))
        self.assertEqual(normal(found), found)
        self.assertEqual(tuple(sorted(formula_ways(found, kinds))), least(rows))
        used = tuple(kind for k, kind in enumerate(kinds) if any(row[k] for row in least(rows)))
        self.assertEqual(kinds_of(found), used)
        return False


if __name__ == "__main__":
    unittest.main()
