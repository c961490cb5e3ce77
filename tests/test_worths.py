"""[73], [74], and what stands before [73]: worths."""

import itertools
import random
import unittest

from asmany.books import Book
from asmany.errors import InvalidNumber, InvalidPool, InvalidRun, Refused
from asmany.layouts import book_of
from asmany.runs import is_full
from asmany.shows import read_formula
from asmany.texts import read_book
from asmany.together import joined_by_or
from asmany.worths import blocks, is_level, level_total, unlevel_runs, worth_of_run
from plain import STRANGE, Case, Stubborn, all_small_books, boxes, minus, some_books, stories, strange_but, strange_numbers
from plain import within

BOOK = read_book("a, b\na, c\nd, e\ne, f\nf, g")
GREAT = 10 ** 18
MOST = 10 ** 9


def totals(ways, worths, pool, known):
    """All totals of full runs from a pool."""
    if pool not in known:
        found = set()
        for way, one in zip(ways, worths):
            if within(way, pool):
                found |= {one + more for more in totals(ways, worths, minus(pool, way), known)}
        known[pool] = found or {0}
    return known[pool]


def plain_blocks(ways):
    """All least lots of ways that contain with each way those with a common kind, by trying all lots."""
    found = []
    for count in range(1, len(ways) + 1):
        for lot in itertools.combinations(range(len(ways)), count):
            closed = all(other in lot for one in lot for other in range(len(ways))
                         if any(x and y for x, y in zip(ways[one], ways[other])))
            if closed and not any(set(one) <= set(lot) for one in found):
                found.append(lot)
    return tuple(sorted(found))


def levels(ways, worths):
    """Whether worths are level, by the words on blocks and stories."""
    for block in plain_blocks(ways):
        if len({worths[number] for number in block}) > 1:
            return False
        if worths[block[0]] and stories([ways[number] for number in block]):
            return False
    return True


def parted_books(seed, many):
    """Books of one or more blocks."""
    chance = random.Random(seed)
    books = some_books(seed, 40, kinds=3, ways=4, top=2)
    found = []
    for _ in range(many):
        rows = []
        for _ in range(chance.randint(1, 3)):
            ways = chance.choice(books)[1]
            width = len(rows[0]) if rows else 0
            rows = [row + (0,) * len(ways[0]) for row in rows] + [(0,) * width + way for way in ways]
        order = chance.sample(range(len(rows[0])), len(rows[0]))
        if len(order) <= 6 and len(rows) <= 8:
            found.append((tuple("abcdefgh"[:len(order)]), tuple(sorted(tuple(row[k] for k in order) for row in rows))))
    return found


class Worths(Case):

    def test_examples(self):
        self.assertEqual(blocks(book=BOOK), ((0, 1, 2), (3, 4)))
        self.assertIs(is_level(book=BOOK, worths=(0, 0, 0, 5, 5)), True)
        self.assertIs(is_level(BOOK, (1, 1, 1, 5, 5)), False)
        self.assertEqual(level_total(book=BOOK, pool=(3, 1, 1, 0, 0, 9, 9), worths=(0, 0, 0, 5, 5)), 10)
        self.assertEqual(worth_of_run(book=BOOK, pool=(1, 1, 0, 1, 1, 1, 1), run=(4, 0, 2), worths=(1, 20, -300, 7, 4000)),
                         4000 + 1 - 300)
        self.assertEqual(worth_of_run(BOOK, (0,) * 7, (), (1, 2, 3, 4, 5)), 0)
        self.assertIsNone(unlevel_runs(book=BOOK, worths=(0, 0, 0, 5, 5)))
        self.assertEqual(blocks(read_book("a\nb\n2 c")), ((0,), (1,), (2,)))

    def test_blocks(self):
        for kinds, ways in all_small_books()[::4] + some_books(730, 120, kinds=5, ways=6) + parted_books(731, 60):
            self.assertEqual(blocks(Book(kinds, ways)), plain_blocks(ways))

    def check_runs(self, book, worths, found):
        """Check a pool and two full runs with different totals."""
        pool, run, other = found
        self.assertIs(is_full(book, pool, run) and is_full(book, pool, other), True)
        self.assertNotEqual(worth_of_run(book, pool, run, worths), worth_of_run(book, pool, other, worths))

    def test_level(self):
        """Level exactly if each block has one worth, and those that are not 0 have no story."""
        chance = random.Random(74)
        told = [0, 0]
        for kinds, ways in parted_books(740, 150) + all_small_books()[::8]:
            book = Book(kinds, ways)
            for way in range(4):
                worths = [0] * len(ways)
                for block in plain_blocks(ways):
                    one = chance.choice((0, 1, -2, 5))
                    for number in block:
                        worths[number] = one if way else chance.choice((0, 1, -2))
                worths = tuple(worths)
                right = levels(ways, worths)
                told[right] += 1
                self.assertIs(is_level(book, worths), right)
                found = unlevel_runs(book, worths)
                self.assertIs(found is None, right)
                if found is not None:
                    self.check_runs(book, worths, found)
                known = {}
                for _ in range(4):
                    pool = tuple(chance.randint(0, 3) for _ in kinds)
                    sums = totals(ways, worths, pool, known)
                    if right:
                        self.assertEqual({level_total(book, pool, worths)}, sums)
                    else:
                        self.fault(Refused, "unlevel", level_total, book, pool, worths)
        self.assertGreater(min(told), 120)

    def test_runs(self):
        chance = random.Random(75)
        for kinds, ways in some_books(750, 60, kinds=4, ways=5):
            book = Book(kinds, ways)
            worths = tuple(chance.randint(-MOST, MOST) for _ in ways)
            pool, run = tuple(chance.randint(0, 6) for _ in kinds), []
            rest = pool
            while any(within(way, rest) for way in ways):
                number = chance.choice([at for at, way in enumerate(ways) if within(way, rest)])
                rest = minus(rest, ways[number])
                run.append(number)
                self.assertEqual(worth_of_run(book, pool, tuple(run), worths), sum(worths[at] for at in run))

    def test_small_pools_tell(self):
        """In a box of pools all totals are alike exactly if the worths are level."""
        for kinds, ways in [pair for pair in all_small_books() if len(pair[1]) < 4][::6]:
            top = 2 * max(max(way) for way in ways)
            if (top + 1) ** len(kinds) > 150:
                continue
            for worths in itertools.product((0, 1), repeat=len(ways)):
                known = {}
                alike = all(len(totals(ways, worths, pool, known)) == 1 for pool in boxes([top] * len(kinds)))
                self.assertIs(is_level(Book(kinds, ways), worths), alike)

    def test_great(self):
        wide = book_of(read_formula("18 of (a or b or c)"))
        nine = book_of(read_formula("9 of (d or e)"))
        book = joined_by_or(wide, nine)
        self.assertEqual(len(book.ways), 200)
        self.assertEqual(blocks(book), (tuple(range(10)), tuple(range(10, 200))))
        worths = (-MOST,) * 10 + (MOST,) * 190
        pool = (GREAT, GREAT, GREAT, GREAT, 7)
        self.assertEqual(level_total(book, pool, worths), MOST * (3 * GREAT // 18) - MOST * ((GREAT + 7) // 9))
        self.assertIsNone(unlevel_runs(book, worths))
        for at in (0, 9, 10, 100, 199):
            other = worths[:at] + (3,) + worths[at + 1:]
            self.assertIs(is_level(book, other), False)
            self.check_runs(book, other, unlevel_runs(book, other))
        gap = Book(book.kinds, book.ways[:50] + book.ways[51:])
        self.assertIs(is_level(gap, worths[:50] + worths[51:]), False)
        self.check_runs(gap, worths[:50] + worths[51:], unlevel_runs(gap, worths[:50] + worths[51:]))
        less = (-MOST,) * 10 + (0,) * 189
        self.assertIs(is_level(gap, less), True)
        self.assertEqual(level_total(gap, pool, less), -MOST * ((GREAT + 7) // 9))
        self.assertEqual(level_total(gap, pool, (0,) * 199), 0)

    def test_wrong_worths(self):
        wrong = list(strange_but(5)) + [[0] * 5, (0,) * 4, (0,) * 6, "00000"]
        for item in STRANGE + (MOST + 1, -MOST - 1, "0", 0.0):
            if item.__class__ is not int or abs(item) > MOST:
                wrong += [(0, 0, 0, item, 0), (item,) * 5]
        for worths in wrong:
            self.fault(InvalidNumber, "worths", worth_of_run, BOOK, (1,) * 7, (0,), worths)
            self.fault(InvalidNumber, "worths", is_level, BOOK, worths)
            self.fault(InvalidNumber, "worths", unlevel_runs, BOOK, worths)
            self.fault(InvalidNumber, "worths", level_total, BOOK, (1,) * 7, worths)
        self.assertIs(is_level(BOOK, (0, 0, 0, -MOST, -MOST)), True)

    def test_wrong_pools_and_runs(self):
        for pool in strange_but(7):
            self.fault(InvalidPool, -1, worth_of_run, BOOK, pool, None, None)
            self.fault(InvalidPool, -1, level_total, BOOK, pool, None)
        for item in strange_numbers() + [GREAT + 1]:
            self.fault(InvalidPool, 2, worth_of_run, BOOK, (0, 0, item, 1, 1, 1, 1), None, None)
            self.fault(InvalidPool, 2, level_total, BOOK, (0, 0, item, 1, 1, 1, 1), None)
        for run in STRANGE:
            if run.__class__ is not tuple:
                self.fault(InvalidRun, -1, worth_of_run, BOOK, (1,) * 7, run, None)
        for run in ((0, 0), (0, 5), (0, True), (0, None), (0, 1.0), (0, -1), (0, Stubborn()), (0, 1)):
            self.fault(InvalidRun, 1, worth_of_run, BOOK, (1,) * 7, run, None)
        self.fault(Refused, "unlevel", level_total, BOOK, (0,) * 7, (1, 1, 1, 5, 5))


if __name__ == "__main__":
    unittest.main()
