"""[87], and what stands before [85]: cores and paths."""

import itertools
import random
import unittest

from asmany.books import Book
from asmany.builder import built
from asmany.cores import book_path, core_of, is_book_path, is_soft, last_ways, strike_row
from asmany.formulas import check_formula, normal
from asmany.layouts import book_of
from asmany.neighbours import formula_with, formula_without, may_come, may_go, stems
from asmany.shows import read_formula, show_formula
from asmany.texts import read_book
from plain import STRANGE, Case, Stubborn, all_normal_formulas, formula_ways, named, some_formulas, stories, within

EIGHT = tuple(("kind", name) for name in "abcdefgh")
SIXTY = ("many", 60, ("or", EIGHT))
LOCKED = read_formula("e and (f or ((a or b) and (c or d)))")
TEXTS = (
    "a or (b and (c or 2 of (d or e)))", "2 of (a or b) or 2 of (c or d)", "a and 2 of (b or (c and 2 of d))", "3 of (a or b)",
    "2 of (a or b or c)", "(a or b) and (c or d)", "((a or b) and (c or d)) or e or 2 of f", "a and (b or (c and (d or e)))",
    "a and (b or 3 of (c or d))", "2 of (a or b) and 2 of (c or d)", "(a and b) or ((c or d) and (e or f))",
    "a or 3 of (b or c) or 2 of (d or e)", "2 of ((a and b) or c) or d", "a and (2 of (b or c) or d) and 2 of e",
    "2 of (a or (b and (c or d)))", "a or (b and ((c or d) and (e or f)))", "5 of (a or b) or c",
)


def is_even(ways):
    if any(within(one, other) for one, other in itertools.permutations(ways, 2)):
        return False
    return not stories(ways)


def ends(ways, struck, known):
    """All sets of ways that may be left when none may go, with the numbers of those struck."""
    if ways not in known:
        goings = [ways - {way} for way in ways if len(ways) > 1 and is_even(sorted(ways - {way}))]
        found = set()
        for rest in goings:
            found |= {(one, more + 1) for one, more in ends(rest, struck + 1, known)}
        known[ways] = found or {(ways, 0)}
    return known[ways]


def bundle(kinds, way):
    return tuple((kind, amount) for kind, amount in zip(kinds, way) if amount)


def small_formulas(seed, most=9):
    found = [read_formula(text) for text in TEXTS]
    found += all_normal_formulas("ab", 4) + all_normal_formulas("abc", 2)[::3] + some_formulas(seed, 160, kinds=5, top=4)
    return [formula for formula in found if len(formula_ways(formula, named(formula))) <= most]


class Cores(Case):

    def test_examples(self):
        self.assertEqual(show_formula(core_of(formula=LOCKED)), "(a or b) and (c or d) and e")
        two = read_formula("2 of (a or b)")
        self.assertEqual(strike_row(formula=two), ((("a", 1), ("b", 1)), (("a", 2),)))
        self.assertEqual(last_ways(formula=two), ((("a", 2),), (("b", 2),)))
        self.assertIs(is_soft(formula=two), True)
        self.assertIs(is_soft(LOCKED), False)
        self.assertEqual((last_ways(LOCKED), core_of(two)), ((), None))
        self.assertEqual(strike_row(LOCKED), ((("e", 1), ("f", 1)),))

    def test_by_striking(self):
        """How many are struck never hangs on the choice; of a locked one always the same ways are left."""
        told = [0, 0]
        for formula in small_formulas(870):
            kinds = named(formula)
            ways = frozenset(formula_ways(formula, kinds))
            found = ends(ways, 0, {})
            self.assertEqual(len({number for _, number in found}), 1)
            left = {rest for rest, _ in found}
            soft = len(min(left, key=len)) == 1
            told[soft] += 1
            self.assertIs(is_soft(formula), soft)
            self.assertEqual(len(strike_row(formula)), min(found, key=len)[1])
            if soft:
                self.assertIsNone(core_of(formula))
                self.assertEqual(last_ways(formula), tuple(sorted(bundle(kinds, way) for rest in left for way in rest)))
            else:
                self.assertEqual(last_ways(formula), ())
                self.assertEqual(len(left), 1)
                core = core_of(formula)
                self.assertIsNone(check_formula(core))
                self.assertEqual(normal(core), core)
                rows = {bundle(named(core), way) for way in formula_ways(core, named(core))}
                self.assertEqual(rows, {bundle(kinds, way) for way in left.pop()})
        self.assertGreater(min(told), 20)

    def test_rows(self):
        """Each time the first one of those that may go."""
        for formula in small_formulas(871) + some_formulas(872, 60, kinds=8, top=60):
            now, row = normal(formula), []
            while may_go(now):
                row.append(may_go(now)[0])
                now = formula_without(now, row[-1])
            self.assertEqual(strike_row(formula), tuple(row))
            if is_soft(formula):
                self.assertIn(bundle(named(now), [amount for (amount,) in zip(*formula_ways(now, named(now)))]), last_ways(formula))
            else:
                self.assertEqual(now, core_of(formula))
            self.assertEqual(is_soft(normal(formula)), is_soft(formula))
            self.assertEqual(core_of(normal(formula)), core_of(formula))
            self.assertEqual(last_ways(normal(formula)), last_ways(formula))

    def test_many_ways(self):
        self.assertEqual((core_of(SIXTY), is_soft(SIXTY), strike_row(SIXTY), last_ways(SIXTY)), (SIXTY, False, (), ()))
        wide = ("many", 12, ("or", EIGHT[:5]))
        formula = ("and", (("or", (wide, EIGHT[5], ("many", 4, EIGHT[6]))), EIGHT[7]))
        self.assertEqual(core_of(formula), ("and", (wide, EIGHT[7])))
        self.assertEqual(strike_row(formula), ((("f", 1), ("h", 1)), (("g", 4), ("h", 1))))
        two = ("or", (wide, ("many", 2, ("or", EIGHT[5:7]))))
        self.assertEqual(core_of(two), wide)
        self.assertEqual(strike_row(two), ((("f", 1), ("g", 1)), (("f", 2),), (("g", 2),)))


class Paths(Case):

    def check(self, one, other):
        """Check the path that is found, by the definition; return whether there is one."""
        path = book_path(one, other)
        if path is None:
            return False
        self.assertIs(path.__class__, tuple)
        self.assertTrue(all(book.__class__ is Book for book in path))
        self.assertEqual((path[0], path[-1]), (one, other))
        for book in path:
            self.assertTrue(len(book.ways) > 30 or is_even(book.ways))
            self.assertIsNotNone(built(book))
        for before, behind in zip(path, path[1:]):
            rows = [{bundle(book.kinds, way) for way in book.ways} for book in (before, behind)]
            self.assertEqual(len(rows[0] ^ rows[1]), 1)
        self.assertIs(is_book_path(one, other, path), True)
        return True

    def test_examples(self):
        one, other = read_book("a, b\na, c"), read_book("2 x\nx, y\n2 y")
        self.assertTrue(self.check(one, other))
        self.assertTrue(self.check(book_of(LOCKED), read_book("a, c, e\na, d, e\nb, c, e\nb, d, e\n7 h")))
        self.assertFalse(self.check(one, book_of(LOCKED)))
        self.assertEqual(book_path(one=one, other=one), (one,))
        self.assertTrue(self.check(one, read_book("a, b")))
        self.assertTrue(self.check(read_book("a, b"), read_book("a, b\na, 3 z")))

    def test_small(self):
        """A path exactly for equal cores of locked books, and for any two soft ones."""
        chance = random.Random(87)
        formulas = small_formulas(873)
        books = [book_of(formula) for formula in formulas]
        told = [0, 0]
        for _ in range(300):
            at, to = chance.randrange(len(books)), chance.randrange(len(books))
            cores = core_of(formulas[at]), core_of(formulas[to])
            right = cores[0] == cores[1]
            told[right] += 1
            self.assertIs(self.check(books[at], books[to]), right)
        self.assertGreater(min(told), 30)

    def test_same_core(self):
        chance = random.Random(88)
        for core in ("(a or b) and (c or d)", "3 of (a or b)", "2 of (a or b or c)", "3 of (a or b) or 5 of (c or d)"):
            books = [book_of(read_formula(core))]
            for _ in range(3):
                formula = read_formula(core)
                for name in "efg":
                    bundles = [one + ((name, chance.randint(1, 5)),) for one in stems(formula)]
                    formula = formula_with(formula, chance.choice(bundles))
                if core_of(formula) == core_of(read_formula(core)):
                    books.append(book_of(formula))
            for one, other in itertools.permutations(books, 2):
                self.assertTrue(self.check(one, other))
            self.assertGreater(len(books), 1)

    def test_steps_keep_the_core(self):
        """One way more or less never changes the core: so other books have no path."""
        for formula in small_formulas(874) + some_formulas(875, 40, kinds=6, top=6):
            core = core_of(formula)
            changed = [formula_without(formula, one) for one in may_go(formula)]
            changed += [formula_with(formula, one) for one in may_come(formula)]
            changed += [formula_with(formula, tuple(sorted(stem + (("x", 2),)))) for stem in stems(formula)]
            for other in changed:
                self.assertEqual(core_of(other), core)

    def test_eight_kinds_alone(self):
        lone = read_book("a, b, c, d, e, f, g, 3 h")
        soft = read_book("a\nb")
        self.assertEqual(book_path(lone, lone), (lone,))
        self.assertIsNone(book_path(lone, soft))
        self.assertIsNone(book_path(soft, lone))
        self.assertIsNone(book_path(lone, read_book("a, b, c, d, e, f, g, 2 h")))
        self.assertTrue(self.check(soft, read_book("a, b, c, d, e, f, 3 g")))
        self.assertTrue(self.check(read_book("a, b, c, d, e, f, g\nh"), read_book("a, b, c, d, e, f, 3 g")))
        self.assertTrue(self.check(read_book("a, b, c, d, e, f, g\nh"), read_book("s, t, u, v, w, x, y\nz")))
        self.assertTrue(self.check(read_book("a, b, c, d, e, f, g\na, b, c, d, e, f, h"), soft))
        # Nothing may stand beside it, as there is no further kind.
        self.assertEqual(stems(built(lone))[0], ())
        self.assertEqual(may_come(built(lone)), ())

    def test_uneven(self):
        road, soft = read_book("a, b\nb, c\nc, d"), read_book("a\nb")
        for one, other in ((road, road), (road, soft), (soft, road)):
            self.assertIsNone(book_path(one, other))
            self.assertIs(is_book_path(one, other, (one, other)), False)
        self.assertIs(is_book_path(road, road, (road,)), False)
        self.assertIs(is_book_path(soft, soft, (soft, road, soft)), False)
        # Just the book between is uneven.
        one, other = read_book("a, b\nc, d"), read_book("a, b\nb, c")
        self.assertIs(is_book_path(one, other, (one, road, other)), False)
        self.assertIs(is_book_path(one, other, (one, read_book("a, b"), other)), True)

    def test_wide(self):
        wide = book_of(read_formula("18 of (a or b or c)"))
        more = book_of(read_formula("18 of (a or b or c) or 2 of (d or e) or f or g"))
        self.assertTrue(self.check(wide, more))
        self.assertTrue(self.check(more, wide))
        full = book_of(read_formula("(18 of (a or b or c)) or 9 of (d or e)"))
        self.assertEqual(len(full.ways), 200)
        self.assertFalse(self.check(full, wide))
        self.assertTrue(self.check(full, full))

    def test_which_are_paths(self):
        a, ab, b = read_book("a"), read_book("a\nb"), read_book("b")
        for value in ((a, ab, b), (a, ab, a, ab, b), (a, read_book("a\n2 b"), a, ab, b)):
            self.assertIs(is_book_path(one=a, other=b, value=value), True)
        wrong = ((), (a,), (b,), (a, b), (a, ab), (ab, b), (a, ab, ab, b), [a, ab, b], (a, (ab,), b), (a, None, b),
                 (b, ab, a), (a, read_book("a\n2 b"), b), (a, read_book("a\nb\nc"), b), (a, ab, "b"), a)
        for value in wrong + STRANGE + tuple((a, value, b) for value in STRANGE) + ((Stubborn(),) * 3,):
            self.assertIs(is_book_path(a, b, value), False)
        self.assertIs(is_book_path(a, a, (a,)), True)
        self.assertIs(is_book_path(a, a, (Book(("a",), ((1,),)),)), True)


if __name__ == "__main__":
    unittest.main()
