"""[83], [84]: a formula asked for."""

import random
import unittest

from asmany.asked import Asker
from asmany.errors import InvalidNumber, Refused
from asmany.formulas import normal
from asmany.pieces import pieces
from plain import STRANGE, Case, Stubborn, all_normal_formulas, named, some_formulas, strange_numbers

A, B, C = [("kind", name) for name in "abc"]


def asked(kinds, answer):
    """An Asker that has been told all it wanted to know."""
    asker = Asker(kinds)
    while asker.wanted is not None:
        before = asker.wanted, asker.answers
        assert asker.found is None and asker.kinds == kinds
        number = answer(asker.wanted)
        assert asker.tell(number) is None
        assert asker.answers == before[1] + ((before[0], number),)
    return asker


class Found(Case):

    def check_wanted(self, asker):
        for pool, _ in asker.answers:
            self.assertIs(pool.__class__, tuple)
            self.assertEqual(len(pool), len(asker.kinds))
            self.assertTrue(all(amount.__class__ is int and 0 <= amount <= 10 ** 6 for amount in pool))
        self.assertLessEqual(len(asker.answers), 4 * len(asker.kinds) ** 2)

    def check(self, formula):
        asker = asked(named(formula), lambda pool: pieces(formula, pool))
        self.assertEqual(asker.found, normal(formula))
        self.assertIsNone(asker.wanted)
        self.check_wanted(asker)
        return asker

    def test_example(self):
        hidden = ("and", (("many", 3, ("or", (A, ("many", 2, B)))), C))
        asker = Asker(kinds=("a", "b", "c"))
        self.assertEqual((asker.kinds, asker.answers, asker.found), (("a", "b", "c"), (), None))
        self.assertEqual(set(vars(asker)), {"kinds", "wanted", "answers", "found"})
        while asker.wanted is not None:
            asker.tell(number=pieces(hidden, asker.wanted))
        self.assertEqual(asker.found, hidden)
        self.assertLessEqual(len(asker.answers), 36)
        self.assertEqual(set(vars(asker)), {"kinds", "wanted", "answers", "found"})

    def test_one_kind(self):
        self.check(A)
        for number in range(2, 61):
            self.check(("many", number, A))

    def test_all_small(self):
        for kinds, room in (("ab", 12), ("abc", 4), ("abcd", 1)):
            for formula in all_normal_formulas(kinds, room):
                self.check(formula)

    def test_two_kinds_with_great_numbers(self):
        for number in (2, 12, 24, 36, 48, 59, 60):
            for common in range(1, number + 1):
                if number % common == 0 and 60 % common == 0:
                    part = ("or", (self.so_many(number // common, A), self.so_many(60 // common, B)))
                    self.check(self.so_many(common, part))
            self.check(("and", (("many", number, A), ("many", 60, B))))
        self.check(("and", (A, ("many", 60, B))))
        self.check(("and", (("many", 60, A), B, ("or", (C, ("kind", "d"))))))

    def so_many(self, number, formula):
        return formula if number == 1 else ("many", number, formula)

    def test_many(self):
        for kinds in range(4, 9):
            for top in (1, 6, 60):
                for formula in some_formulas(840 + kinds, 40, kinds=kinds, top=top):
                    self.check(formula)

    def test_full_formulas(self):
        eight = tuple(("kind", name) for name in "abcdefgh")
        pairs = [("or", eight[k:k + 2]) for k in range(0, 8, 2)]
        for formula in (("many", 60, ("or", eight)), ("many", 60, ("and", eight)), ("and", tuple(pairs)),
                        ("or", tuple(("and", pair[1]) for pair in pairs)), ("many", 60, ("or", tuple(
                            ("and", pair[1]) for pair in pairs))),
                        ("and", tuple(("many", 60, pair) for pair in pairs))):
            self.check(formula)


class AnyNumbers(Case):

    def fits(self, formula, asker):
        return all(pieces(formula, pool) == number for pool, number in asker.answers)

    def test_whatever_is_told(self):
        chance = random.Random(83)
        for count in range(1, 9):
            kinds = tuple("abcdefgh"[:count])
            for way in range(30):
                likely = chance.random()
                answers = (
                    lambda pool: 0, lambda pool: 1, lambda pool: 10 ** 30, lambda pool: chance.choice((0, 1)),
                    lambda pool: int(chance.random() < likely) * chance.choice((16666, 277, 8333)),
                    lambda pool: max(pool), lambda pool: sum(pool) // 3, lambda pool: 16666 if 16666 in pool else (
                        chance.random() < likely) + 0,
                    lambda pool: chance.randint(0, 10 ** 6),
                )
                asker = asked(kinds, answers[way % len(answers)])
                self.assertLessEqual(len(asker.answers), 4 * count * count)
                if asker.found is not None:
                    self.assertTrue(self.fits(asker.found, asker))
                    self.assertEqual(normal(asker.found), asker.found)
                    self.assertEqual(named(asker.found), kinds)

    def test_no_size(self):
        """Numbers that no size from 1 to 60 gives."""
        found = {}
        for number in range(17000):
            asker = Asker(("a",))
            asker.tell(number)
            if asker.found is not None:
                found[number] = asker.found
        right = {}
        asker = Asker(("a",))
        for size in range(1, 61):
            formula = A if size == 1 else ("many", size, A)
            right[pieces(formula, asker.wanted)] = formula
        self.assertEqual(found, right)
        self.assertEqual(len(right), 60)

    def test_nearly_right(self):
        """Of all formulas just the one found gives all the numbers told."""
        chance = random.Random(84)
        told = [0, 0]
        for kinds, room in (("a", 60), ("ab", 8), ("abc", 3)):
            formulas = all_normal_formulas(kinds, room)
            for formula in chance.sample(formulas, min(len(formulas), 60)):
                wrong = chance.choice((0.02, 0.1, 0.3))
                asker = asked(tuple(kinds), lambda pool: max(
                    pieces(formula, pool) + (chance.choice((-1, 1, 10)) if chance.random() < wrong else 0), 0))
                fitting = [one for one in formulas if self.fits(one, asker)]
                told[asker.found is None] += 1
                if asker.found is None:
                    self.assertEqual(fitting, [])
                elif asker.found in formulas:
                    self.assertEqual(fitting, [asker.found])
                else:
                    self.assertTrue(self.fits(asker.found, asker))
                    self.assertEqual(fitting, [])
        self.assertGreater(min(told), 20)

    def test_never_two(self):
        for kinds, room in (("ab", 8), ("abc", 3)):
            formulas = all_normal_formulas(kinds, room)
            for formula in formulas[::5]:
                asker = asked(tuple(kinds), lambda pool: pieces(formula, pool))
                self.assertEqual([one for one in formulas if self.fits(one, asker)], [formula])


class Wrong(Case):

    def test_kinds(self):
        wrong = [value for value in STRANGE if value.__class__ is not tuple or len(value) != 1
                 or value[0].__class__ is not str]
        for value in wrong + [tuple("abcdefghi"), ("b", "a"), ("a", "a"), ["a"], ("A",), ("",), ("aaaaaa",), "ab",
                              ("a", None), (1, 2), {"a": 1}, ("a", Stubborn())]:
            self.fault(Refused, "kinds", Asker, value)

    def test_numbers(self):
        asker = Asker(("a", "b"))
        before = dict(vars(asker))
        for value in strange_numbers():
            self.fault(InvalidNumber, "number", asker.tell, value)
            self.assertEqual(vars(asker), before)

    def test_done(self):
        for asker in (asked(("a", "b"), lambda pool: sum(pool)), asked(("a",), lambda pool: 5)):
            before = dict(vars(asker))
            for value in strange_numbers() + [0, 1, 7]:
                self.fault(Refused, "done", asker.tell, value)
                self.assertEqual(vars(asker), before)

    def test_two_askers(self):
        one, other = Asker(("a", "b")), Asker(("a", "b"))
        self.assertEqual(vars(one), vars(other))
        one.tell(1)
        self.assertEqual(other.answers, ())
        other.tell(1)
        self.assertEqual(vars(one), vars(other))


if __name__ == "__main__":
    unittest.main()
