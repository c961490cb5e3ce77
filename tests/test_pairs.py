"""[65], [66]: webs of pairs."""

import itertools
import random
import unittest

from asmany.books import Book
from asmany.errors import InvalidBook
from asmany.formulas import check_formula, normal
from asmany.pairs import check_web, closed_web, open_walk, web_book, web_formula
from plain import STRANGE, Case, Stubborn, formula_ways, named, stories

CALLS = (check_web, web_book, open_walk, web_formula, closed_web)
EIGHT = tuple("abcdefgh")
ALL = tuple(itertools.combinations_with_replacement(EIGHT, 2))


def kinds_of_web(web):
    return tuple(sorted(set(sum(web, ()))))


def walks(web):
    """All walks (a, b, c, d) of three pairs whose ends may not go together, ascending."""
    near = set(web) | {pair[::-1] for pair in web}
    return [row for row in itertools.product(kinds_of_web(web), repeat=4)
            if {row[:2], row[1:3], row[2:]} <= near and (row[0], row[3]) not in near]


def small_webs():
    """All webs of up to three kinds, and some of more."""
    pairs = tuple(itertools.combinations_with_replacement("abc", 2))
    for size in range(1, 7):
        yield from itertools.combinations(pairs, size)
    chance = random.Random(65)
    for _ in range(250):
        kinds = EIGHT[:chance.randint(3, 6)]
        pairs = tuple(itertools.combinations_with_replacement(kinds, 2))
        yield tuple(sorted(chance.sample(pairs, chance.randint(1, min(len(pairs), 8)))))


class Webs(Case):

    def test_examples(self):
        road = (("a", "b"), ("b", "c"), ("c", "d"))
        self.assertEqual(open_walk(web=road), ("a", "b", "c", "d"))
        self.assertEqual(closed_web(web=road), (("a", "b"), ("a", "d"), ("b", "c"), ("c", "d")))
        self.assertEqual(open_walk((("a", "b"), ("a", "c"), ("b", "c"))), ("a", "b", "c", "a"))
        a, b, c = [("kind", name) for name in "abc"]
        self.assertEqual(web_formula(web=(("a", "b"), ("b", "c"))), ("and", (("or", (a, c)), b)))
        self.assertEqual(web_formula((("a", "a"),)), ("many", 2, a))
        self.assertEqual(web_formula((("a", "a"), ("b", "c"))), ("or", (("many", 2, a), ("and", (b, c)))))
        self.assertIsNone(web_formula(road))
        self.assertEqual(web_book(web=(("a", "a"), ("a", "b"))), Book(("a", "b"), ((1, 1), (2, 0))))
        self.assertIsNone(check_web(value=road))

    def test_all_pairs(self):
        self.assertIsNone(check_web(ALL))
        self.assertEqual(len(web_book(ALL).ways), 36)
        self.assertIsNone(open_walk(ALL))
        self.assertEqual(web_formula(ALL), ("many", 2, ("or", tuple(("kind", kind) for kind in EIGHT))))
        self.assertEqual(closed_web(ALL), ALL)
        self.assertEqual(closed_web(tuple(zip(EIGHT, EIGHT[1:])) + (("h", "h"),)), ALL)
        self.assertEqual(open_walk((("a", "b"), ("b", "b"))), ("a", "b", "b", "a"))

    def test_many(self):
        told = [0, 0]
        for web in small_webs():
            kinds = kinds_of_web(web)
            ways = tuple(sorted(tuple(pair.count(kind) for kind in kinds) for pair in web))
            self.assertIsNone(check_web(web))
            self.assertEqual(web_book(web), Book(kinds, ways))
            found, open_ones = web_formula(web), walks(web)
            self.assertEqual(open_walk(web), open_ones[0] if open_ones else None)
            self.assertIs(not open_ones, not stories(ways))
            self.assertIs(not open_ones, self.is_closed(web))
            told[not open_ones] += 1
            if open_ones:
                self.assertIsNone(found)
                for a, b, c, d in open_ones:
                    rows = [tuple(pair.count(kind) for kind in kinds) for pair in ((b, c), (a, b), (c, d))]
                    self.assertIn(tuple(map(ways.index, rows)), stories(ways))
            else:
                self.assertIsNone(check_formula(found))
                self.assertEqual(normal(found), found)
                self.assertEqual(named(found), kinds)
                self.assertEqual(tuple(sorted(formula_ways(found, kinds))), ways)
        self.assertGreater(min(told), 40)

    def is_closed(self, web):
        """By the pieces: all with all, or two sides."""
        near = set(web) | {pair[::-1] for pair in web}
        pieces = []
        for kind in kinds_of_web(web):
            joined = [piece for piece in pieces if any((kind, other) in near for other in piece)]
            pieces = [piece for piece in pieces if piece not in joined] + [sum(joined, [kind])]
        return all(
            all(pair in near for pair in itertools.product(piece, repeat=2)) or any(
                all(((one in side) != (other in side)) == ((one, other) in near)
                    for one, other in itertools.product(piece, repeat=2))
                for size in range(len(piece)) for side in itertools.combinations(piece, size))
            for piece in pieces)

    def test_closed_webs(self):
        """Every closed web that has the pairs of a web has all pairs of the closed one."""
        pairs = tuple(itertools.combinations_with_replacement("abc", 2))
        all_webs = [web for size in range(1, 7) for web in itertools.combinations(pairs, size)]
        four = tuple(itertools.combinations_with_replacement("abcd", 2))
        all_webs += [web for size in (3, 4, 7, 10) for web in itertools.combinations(four, size)]
        closed = [set(web) for web in all_webs if not walks(web)]
        for web in all_webs:
            found = closed_web(web)
            self.assertEqual(found, tuple(sorted(found)))
            self.assertFalse(walks(found))
            self.assertTrue(set(web) <= set(found))
            self.assertIs(found == web, not walks(web))
            for other in closed:
                if set(web) <= other:
                    self.assertTrue(set(found) <= other)

    def test_closed_by_odd_walks(self):
        for web in small_webs():
            kinds = kinds_of_web(web)
            near = set(web) | {pair[::-1] for pair in web}
            rows = set(near)
            for _ in range(len(kinds)):
                rows |= {(a, d) for a, b in rows for c, d in near if (b, c) in near}
            self.assertEqual(closed_web(web), tuple(sorted(pair for pair in rows if pair[0] <= pair[1])))


class WrongWebs(Case):

    def test_no_web(self):
        nine = ALL + (("i", "i"),)
        for value in STRANGE + ([("a", "b")], "ab", {("a", "b"): 1}, nine, ("a", "b") * 20):
            if value.__class__ is not tuple or not 1 <= len(value) <= 36:
                for call in CALLS:
                    self.fault(InvalidBook, -1, call, value)

    def test_wrong_pairs(self):
        wrong = (("b", "a"), ("a",), ("a", "b", "c"), ["a", "b"], "ab", ("A", "b"), ("a", "B"), (1, 2), ("a", None),
                 ("", "a"), ("a", "aaaaaa"), (("a", "b"),), ("a", Stubborn()), (Stubborn(), "a"), {"a": "b"})
        for item in wrong + STRANGE:
            for call in CALLS:
                self.fault(InvalidBook, 0, call, (item, item))
                self.fault(InvalidBook, 1, call, (("a", "a"), item, None))

    def test_order(self):
        for call in CALLS:
            self.fault(InvalidBook, 1, call, (("a", "c"), ("a", "b"), None))
            self.fault(InvalidBook, 1, call, (("a", "c"), ("a", "c")))
            self.fault(InvalidBook, 2, call, (("a", "a"), ("b", "c"), ("a", "d")))

    def test_ninth_kind(self):
        pairs = tuple((name, name) for name in EIGHT)
        for call in CALLS:
            self.fault(InvalidBook, 8, call, pairs + (("i", "i"),))
            self.fault(InvalidBook, 4, call, (("a", "b"), ("c", "d"), ("e", "f"), ("g", "h"), ("h", "i"), None))
            self.fault(InvalidBook, 4, call, (("a", "b"), ("c", "d"), ("e", "f"), ("g", "gg"), ("h", "i")))
        self.assertIsNone(check_web(pairs))


if __name__ == "__main__":
    unittest.main()
