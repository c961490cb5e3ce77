"""[27], [28]: tables, and the formula of a table."""

import itertools
import random
import unittest
from math import gcd

from asmany.books import Book
from asmany.formulas import check_formula, meeting, normal, sizes_of
from asmany.tables import formula_of_table, formula_pairs, most_of, pair_table
from plain import Case, all_normal_formulas, formula_ways, named, some_books, some_formulas, subsets

A, B, C, D = [("kind", name) for name in "abcd"]
RING = Book(("a", "b", "c"), ((0, 1, 1), (1, 0, 1), (1, 1, 0)))


def plain_table(kinds, ways):
    """The table of a book, by the definition."""
    most = {kind: max(way[k] for way in ways) for k, kind in enumerate(kinds)}
    pairs = {}
    for (i, x), (j, z) in itertools.combinations(enumerate(kinds), 2):
        m, n = most[x], most[z]
        if any(way[i] == m and way[j] == n for way in ways):
            pairs[(x, z)] = 0
        else:
            pairs[(x, z)] = len({way[i] for way in ways if way[i] and way[i] * n + way[j] * m == m * n})
    return most, pairs


def part_of(most, pairs, lot):
    """The part of a table on a lot."""
    return {kind: most[kind] for kind in lot}, {two: pairs[two] for two in itertools.combinations(lot, 2)}


def has_formula(most, pairs):
    """Whether there is a formula, by what the document says of two, three and four kinds."""
    number = dict(pairs)
    number.update({two[::-1]: value for two, value in pairs.items()})
    for (one, other), value in number.items():
        if value and (most[one] % value or most[other] % value):
            return False
    for three in itertools.combinations(most, 3):
        told = sorted(number[two] for two in itertools.combinations(three, 2))
        if told[0] and not (told[0] == told[1] and told[2] % told[0] == 0):
            return False
        if not told[0] and told[1] and told[1] != told[2]:
            return False
    for a, b, c, d in itertools.permutations(most, 4):
        if [number[two] for two in ((a, b), (b, c), (c, d))] == [0, 0, 0]:
            if all(number[two] for two in ((a, c), (a, d), (b, d))):
                return False
    return True


class Tables(Case):

    def test_examples(self):
        self.assertEqual(most_of(book=RING), {"a": 1, "b": 1, "c": 1})
        self.assertEqual(pair_table(book=RING), {("a", "b"): 0, ("a", "c"): 0, ("b", "c"): 0})
        self.assertEqual(formula_of_table(most_of(RING), pair_table(RING)), ("and", (A, B, C)))
        formula = ("many", 4, ("or", (A, ("many", 3, B))))
        self.assertEqual(formula_pairs(formula=formula), {("a", "b"): 4})
        self.assertEqual(formula_of_table(most={"b": 12, "a": 4}, pairs={("a", "b"): 4}), formula)
        self.assertEqual(formula_of_table({"b": 12}, {}), ("many", 12, B))
        self.assertEqual(formula_of_table({"b": 1}, {}), B)
        self.assertEqual(pair_table(Book(("a",), ((7,),))), {})
        self.assertEqual(formula_pairs(A), {})
        self.assertEqual(pair_table(Book(("a", "b"), ((0, 4), (1, 3), (3, 1), (4, 0)))), {("a", "b"): 3})
        self.assertEqual(pair_table(Book(("a", "b"), ((0, 60), (1, 58), (30, 30), (59, 1), (60, 0)))), {("a", "b"): 3})

    def test_any_books(self):
        for kinds, ways in some_books(270, 300, kinds=5, ways=8, top=4):
            most, pairs = plain_table(kinds, ways)
            self.assertEqual(most_of(Book(kinds, ways)), most)
            self.assertEqual(pair_table(Book(kinds, ways)), pairs)
            self.assertEqual(list(pair_table(Book(kinds, ways))), list(pairs))

    def test_formulas_have_the_tables_of_their_books(self):
        for formula in some_formulas(271, 400, kinds=5, top=8):
            kinds = named(formula)
            most, pairs = plain_table(kinds, sorted(formula_ways(formula, kinds)))
            self.assertEqual(sizes_of(formula), most)
            self.assertEqual(formula_pairs(formula), pairs)
            self.assertEqual(pairs, {two: meeting(formula, *two) for two in pairs})
            self.assertEqual(formula_of_table(most, pairs), normal(formula))

    def test_great_formulas(self):
        for formula in some_formulas(272, 500, kinds=8, top=60):
            self.assertEqual(formula_of_table(sizes_of(formula), formula_pairs(formula)), normal(formula))

    def test_wide_book(self):
        ways = tuple((x, y, 18 - x - y) for x in range(19) for y in range(19 - x))
        book = Book(("a", "b", "c"), ways)
        self.assertEqual(formula_of_table(most_of(book), pair_table(book)), ("many", 18, ("or", (A, B, C))))


class FormulasOfTables(Case):

    def test_all_small_tables(self):
        """Just the tables of all formulas have one, and each has one."""
        known = {}
        for formula in all_normal_formulas("abc", 6):
            if named(formula) == ("a", "b", "c"):
                key = (tuple(sizes_of(formula).values()), tuple(formula_pairs(formula).values()))
                self.assertNotIn(key, known)
                known[key] = formula
        told = [0, 0]
        for sizes in itertools.product((1, 2, 3, 4, 6), repeat=3):
            for numbers in itertools.product((0, 1, 2, 3, 4, 6), repeat=3):
                most = dict(zip("abc", sizes))
                pairs = dict(zip((("a", "b"), ("a", "c"), ("b", "c")), numbers))
                found = formula_of_table(most, pairs)
                self.assertEqual(found, known.get((sizes, numbers)))
                self.assertIs(found is not None, has_formula(most, pairs))
                told[found is None] += 1
        self.assertGreater(min(told), 200)

    def some_table(self, chance, count):
        """A table that often has a formula, or nearly."""
        kinds = tuple("abcdefgh"[:count])
        formula = [one for one in some_formulas(chance.random(), 1, kinds=count, top=12)][0]
        most = {kind: chance.choice((1, 2, 4, 6, 12)) for kind in kinds}
        pairs = {two: chance.choice((0, 0, 1, 2)) for two in itertools.combinations(kinds, 2)}
        most.update(sizes_of(formula))
        pairs.update(formula_pairs(formula))
        for _ in range(chance.randint(0, 2)):
            two = chance.choice(list(pairs))
            pairs[two] = chance.choice((0, 1, 2, 3, pairs[two]))
        return most, pairs

    def test_by_lots_of_four(self):
        chance = random.Random(28)
        told = [0, 0]
        for _ in range(1500):
            most, pairs = self.some_table(chance, chance.choice((4, 5, 6)))
            kinds = tuple(sorted(most))
            found = formula_of_table(most, pairs)
            parts = [formula_of_table(*part_of(most, pairs, lot)) for lot in subsets(kinds) if 1 <= len(lot) <= 4]
            self.assertIs(found is not None, None not in parts)
            self.assertIs(found is not None, has_formula(most, pairs))
            told[found is None] += 1
            if found is not None:
                self.assertIsNone(check_formula(found))
                self.assertEqual(normal(found), found)
                self.assertEqual((sizes_of(found), formula_pairs(found)), (most, pairs))
        self.assertGreater(min(told), 100)

    def test_no_formula_though_each_three_kinds_have_one(self):
        most = dict.fromkeys("abcd", 1)
        pairs = dict.fromkeys(itertools.combinations("abcd", 2), 1)
        for two in (("a", "b"), ("b", "c"), ("c", "d")):
            pairs[two] = 0
        self.assertIsNone(formula_of_table(most, pairs))
        for three in itertools.combinations("abcd", 3):
            self.assertIsNotNone(formula_of_table(*part_of(most, pairs, three)))
        most.update(dict.fromkeys("efgh", 60))
        pairs.update({two: 0 for two in itertools.combinations("abcdefgh", 2) if two[1] > "d"})
        self.assertIsNone(formula_of_table(most, pairs))

    def test_eight_kinds(self):
        kinds = tuple("abcdefgh")
        most = dict.fromkeys(kinds, 60)
        for number in (1, 2, 5, 30, 60):
            pairs = dict.fromkeys(itertools.combinations(kinds, 2), number)
            parts = tuple(("kind", kind) if number == 60 else ("many", 60 // number, ("kind", kind)) for kind in kinds)
            whole = ("or", parts) if number == 1 else ("many", number, ("or", parts))
            self.assertEqual(formula_of_table(most, pairs), whole)
        for number in (7, 59, 8):
            self.assertTrue(60 % number and gcd(60, number) < number)
            self.assertIsNone(formula_of_table(most, dict.fromkeys(itertools.combinations(kinds, 2), number)))

    def test_arguments_stay(self):
        most, pairs = {"b": 2, "a": 2}, {("a", "b"): 2}
        formula_of_table(most, pairs)
        self.assertEqual((most, pairs), ({"b": 2, "a": 2}, {("a", "b"): 2}))


if __name__ == "__main__":
    unittest.main()
