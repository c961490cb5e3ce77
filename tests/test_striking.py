"""[77]: ways struck."""

import itertools
import random
import unittest

from asmany.books import Book
from asmany.errors import Refused
from asmany.striking import Strikes, all_fewest_strikes, fewest_strikes, is_strikes
from plain import STRANGE, Case, Stubborn, all_small_books, formula_ways, minus, named, nested, some_books
from plain import some_formulas, within

ROAD = Book(("a", "b", "c", "d"), ((0, 0, 1, 1), (0, 1, 1, 0), (1, 1, 0, 0)))


def story_of(ways, rest, triple):
    """Whether three of the ways that are left are a story, for which only these count."""
    if not all(number in rest for number in triple):
        return False
    s, t, u = [ways[number] for number in triple]
    pool = tuple(max(x, y + z) for x, y, z in zip(s, t, u))
    return not any(within(ways[number], minus(pool, s)) for number in rest)


def is_enough(ways, lot):
    rest = [number for number in range(len(ways)) if number not in lot]
    return not any(story_of(ways, rest, triple) for triple in itertools.product(rest, repeat=3))


def plain_fewest(ways):
    """All lots with the fewest ways that are enough."""
    for count in range(len(ways) + 1):
        found = tuple(lot for lot in itertools.combinations(range(len(ways)), count) if is_enough(ways, lot))
        if found:
            return found


def holds(ways, struck, height, tree):
    """Whether a tree of a height is one behind the struck ways."""
    story, trees = tree
    rest = [number for number in range(len(ways)) if number not in struck]
    if not story_of(ways, rest, story):
        return False
    if height == 0:
        return trees == ()
    numbers = sorted(set(story))
    return len(trees) == len(numbers) and all(
        holds(ways, struck | {number}, height - 1, one) for number, one in zip(numbers, trees))


def strikes_of(ways, lot, tree):
    """Whether a lot and a tree hold, by the definition."""
    if not is_enough(ways, lot):
        return False
    return tree is None if not lot else tree is not None and holds(ways, set(), len(lot) - 1, tree)


class OfStrikes(Case):

    def test_class(self):
        found = Strikes(lot=(0,), tree=None)
        self.assertEqual(vars(found), {"lot": (0,), "tree": None})
        held = Stubborn()
        self.assertIs(Strikes(held, 1).lot, held)

    def test_examples(self):
        self.assertEqual(all_fewest_strikes(book=ROAD), ((0,), (1,), (2,)))
        self.assertIs(is_strikes(book=ROAD, value=Strikes((0,), ((1, 0, 2), ()))), True)
        self.assertIs(is_strikes(ROAD, Strikes((0,), ((1, 2, 0), ()))), True)
        self.assertIs(is_strikes(ROAD, Strikes((0,), ((0, 1, 2), ()))), False)
        self.assertIs(is_strikes(ROAD, Strikes((0,), None)), False)
        self.assertIs(is_strikes(ROAD, Strikes((), None)), False)
        self.assertIs(is_strikes(ROAD, Strikes((0, 1), ((1, 0, 2), ()))), False)
        found = fewest_strikes(book=ROAD)
        self.assertIs(found.__class__, Strikes)
        self.assertIs(is_strikes(ROAD, found), True)

    def test_even_books(self):
        for formula in some_formulas(770, 60, kinds=4, top=3):
            ways = tuple(sorted(formula_ways(formula, named(formula))))
            if len(ways) <= 10:
                book = Book(named(formula), ways)
                self.assertEqual(all_fewest_strikes(book), ((),))
                found = fewest_strikes(book)
                self.assertEqual((found.lot, found.tree), ((), None))
                self.assertIs(is_strikes(book, found), True)
                self.assertIs(is_strikes(book, Strikes((), ())), False)
                self.assertIs(is_strikes(book, Strikes((0,), None)), False)

    def test_fewest(self):
        """If there is a tree of a height, no lot of so many ways is enough."""
        sizes = []
        books = all_small_books()[::6] + some_books(771, 60, kinds=4, ways=6, top=2) + some_books(772, 15, kinds=5, ways=7)
        for kinds, ways in books:
            book = Book(kinds, ways)
            right = plain_fewest(ways)
            self.assertEqual(all_fewest_strikes(book), right)
            found = fewest_strikes(book)
            self.assertIn(found.lot, right)
            self.assertTrue(strikes_of(ways, found.lot, found.tree))
            self.assertIs(is_strikes(book, found), True)
            sizes.append(len(found.lot))
        self.assertGreater(sizes.count(1), 10)
        self.assertGreater(len([size for size in sizes if size > 1]), 10)

    def test_which_hold(self):
        chance = random.Random(77)
        told = [0, 0]
        for kinds, ways in some_books(773, 60, kinds=4, ways=7, top=2):
            book = Book(kinds, ways)
            found = fewest_strikes(book)
            if not found.lot:
                continue
            for _ in range(12):
                lot = tuple(sorted(chance.sample(range(len(ways)), chance.randint(1, len(ways)))))
                lot = chance.choice((lot, found.lot, chance.choice(all_fewest_strikes(book))))
                tree = self.changed(chance, found.tree, len(ways))
                right = strikes_of(ways, lot, tree)
                told[right] += 1
                self.assertIs(is_strikes(book, Strikes(lot, tree)), right)
        self.assertGreater(min(told), 80)

    def changed(self, chance, tree, size):
        """A tree with some story or number of trees changed, or none."""
        if chance.random() < 0.4:
            return tree
        story, trees = tree
        if chance.random() < 0.5 or not trees:
            s, t, u = story
            story = chance.choice(((s, u, t), (t, s, u), (s, t, t), tuple(chance.randint(0, size - 1) for _ in range(3))))
        elif chance.random() < 0.4:
            trees = trees[:-1]
        else:
            trees = tuple(self.changed(chance, one, size) for one in trees)
        return story, trees

    def test_a_larger_lot_need_not_be_enough(self):
        # All five ways are those of 4 of (a or b); without the middle one alone they are uneven.
        book = Book(("a", "b"), ((0, 4), (1, 3), (2, 2), (3, 1), (4, 0)))
        self.assertEqual(all_fewest_strikes(book), ((),))
        self.assertFalse(is_enough(book.ways, (2,)))
        self.assertEqual(all_fewest_strikes(Book(("a", "b"), ((0, 4), (1, 3), (3, 1), (4, 0)))),
                         plain_fewest(((0, 4), (1, 3), (3, 1), (4, 0))))

    def test_ten_ways(self):
        chance = random.Random(774)
        rows = []
        while len(rows) < 11:
            row = tuple(chance.randint(0, 2) for _ in range(8))
            if any(row) and not any(within(row, one) or within(one, row) for one in rows):
                rows.append(row)
        ten = Book(tuple("abcdefgh"), tuple(sorted(rows[:10])))
        found = fewest_strikes(ten)
        self.assertTrue(strikes_of(ten.ways, found.lot, found.tree))
        self.assertGreater(len(found.lot), 4)
        self.assertIs(is_strikes(ten, found), True)
        self.assertIn(found.lot, all_fewest_strikes(ten))
        eleven = Book(tuple("abcdefgh"), tuple(sorted(rows)))
        for call in (fewest_strikes, all_fewest_strikes):
            self.fault(Refused, "wide", call, eleven)
        for value in (found, None, Strikes(None, None), Stubborn()):
            self.fault(Refused, "wide", is_strikes, eleven, value)

    def test_wrong_values(self):
        for value in STRANGE:
            self.assertIs(is_strikes(ROAD, value), False)
            self.assertIs(is_strikes(ROAD, Strikes(value, ((1, 0, 2), ()))), False)
            self.assertIs(is_strikes(ROAD, Strikes((0,), value)), False)
            is_empty = value.__class__ is tuple and len(value) == 0
            self.assertIs(is_strikes(ROAD, Strikes((0,), ((1, 0, 2), value))), is_empty)
            self.assertIs(is_strikes(ROAD, Strikes((0,), (value, ()))), False)
        for lot in ((0, 0), (1, 0), (3,), (-1,), (True,), (0.0,), [0], (0, None), (Stubborn(),), "0"):
            self.assertIs(is_strikes(ROAD, Strikes(lot, ((1, 0, 2), ()))), False)
        for tree in ([(1, 0, 2), ()], ((1, 0, 2), []), ([1, 0, 2], ()), ((1, 0, 2),), ((1, 0, 2), (), ()), ((1, 0), ()),
                     ((1, 0, 2, 2), ()), ((True, 0, 2), ()), ((1, 0, 3), ()), ((1, False, 2), ()), ((1, 0.0, 2), ()),
                     ((1, 0, 2), ((1, 0, 2), ())), ((Stubborn(), 0, 2), ()), nested(5000)):
            self.assertIs(is_strikes(ROAD, Strikes((0,), tree)), False)

    def test_wrong_inner_trees(self):
        rows = ((0, 0, 0, 1, 1), (0, 0, 1, 1, 0), (0, 1, 1, 0, 0), (1, 0, 0, 0, 1), (1, 1, 0, 0, 0))
        book = Book(("a", "b", "c", "d", "e"), rows)
        found = fewest_strikes(book)
        self.assertEqual(len(found.lot), 2)
        self.assertIs(is_strikes(book, found), True)
        story, trees = found.tree
        for value in STRANGE + (trees[0], trees[1] + ((),)):
            self.assertIs(is_strikes(book, Strikes(found.lot, (story, (value,) + trees[1:]))), value is trees[0])
            self.assertIs(is_strikes(book, Strikes(found.lot, (story, trees + (value,)))), False)
        self.assertIs(is_strikes(book, Strikes(found.lot, (story, list(trees)))), False)
        self.assertIs(is_strikes(book, Strikes(found.lot, (story, ()))), False)


if __name__ == "__main__":
    unittest.main()
