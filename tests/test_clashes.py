"""[70] class Clashes, [71] rows of four and trees, [72] books of jobs."""

import itertools
import random
import unittest

from asmany.clashes import Clashes, clash_book, clash_formula, clash_tree, is_clash_tree, is_row_of_four
from asmany.clashes import row_of_four
from asmany.errors import InvalidNumber, Refused
from asmany.formulas import check_formula, normal
from plain import STRANGE, Case, Stubborn, boxes, formula_ways, nested, stories, strange_but

EIGHT = tuple("abcdefgh")
PATH = Clashes(4, ((0, 1), (1, 2), (2, 3)))


def all_clashes(jobs):
    """All clashes of so many jobs."""
    pairs = list(itertools.combinations(range(jobs), 2))
    for chosen in itertools.product((False, True), repeat=len(pairs)):
        yield Clashes(jobs, tuple(pair for pair, there in zip(pairs, chosen) if there))


def rows_of_four(clashes):
    """All rows of four by the definition, ascending."""
    return [
        (a, b, c, d) for a, b, c, d in itertools.permutations(range(clashes.jobs), 4)
        if a < d and [tuple(sorted(pair)) in clashes.pairs for pair in (
            (a, b), (b, c), (c, d), (a, c), (a, d), (b, d)
        )] == [True, True, True, False, False, False]
    ]


def jobs_of(tree):
    """The jobs of a tree from the first to the last one."""
    return [tree[1]] if tree[0] == "job" else sum(map(jobs_of, tree[1]), [])


def clash_in(tree, i, j):
    """Whether the smallest tree with two jobs is a turn."""
    for part in tree[1]:
        if {i, j} <= set(jobs_of(part)):
            return clash_in(part, i, j)
    return tree[0] == "turn"


def tells(tree, clashes):
    """Whether a tree is one of the clashes, by the definition."""
    return sorted(jobs_of(tree)) == list(range(clashes.jobs)) and all(
        clash_in(tree, i, j) == ((i, j) in clashes.pairs)
        for i, j in itertools.combinations(range(clashes.jobs), 2)
    )


def is_tidy(tree):
    """Whether no part has the word around it, and parts stand in the order of first jobs."""
    if tree[0] == "job":
        return True
    firsts = [min(jobs_of(part)) for part in tree[1]]
    return firsts == sorted(firsts) and len(firsts) > 1 and all(
        part[0] != tree[0] and is_tidy(part) for part in tree[1]
    )


def ends(clashes, lengths):
    """The ends of all prompt timetables, by going through the waiting jobs in all sequences."""
    found = set()
    for order in itertools.permutations(range(clashes.jobs)):
        starts, moment, waiting = {}, 0, [job for job in order if lengths[job]]
        while waiting:
            for job in list(waiting):
                if not any(
                    starts[other] + lengths[other] > moment and tuple(sorted((job, other))) in clashes.pairs
                    for other in starts
                ):
                    starts[job] = moment
                    waiting.remove(job)
            moment = min([starts[job] + lengths[job] for job in starts if starts[job] + lengths[job] > moment])
        found.add(max([starts[job] + lengths[job] for job in starts], default=0))
    return found


def heaviest(clashes, lengths):
    """The greatest sum of the lengths of jobs each two of which clash."""
    return max(
        sum(lengths[job] for job in lot)
        for count in range(1, clashes.jobs + 1) for lot in itertools.combinations(range(clashes.jobs), count)
        if all(pair in clashes.pairs for pair in itertools.combinations(lot, 2))
    )


class ClashClass(Case):

    def test_attributes(self):
        for clashes in (Clashes(3, ((0, 1), (0, 2))), Clashes(pairs=((0, 1), (0, 2)), jobs=3)):
            self.assertEqual((clashes.jobs, clashes.pairs), (3, ((0, 1), (0, 2))))
        Clashes(1, ())
        Clashes(60, tuple(itertools.combinations(range(60), 2)))

    def test_wrong_jobs(self):
        for jobs in STRANGE + (0, 61, "3", 2.0, (3,)):
            self.fault(InvalidNumber, "jobs", Clashes, jobs, ())
            self.fault(InvalidNumber, "jobs", Clashes, jobs, None)

    def test_wrong_pairs(self):
        for pairs in list(strange_but(0)) + [
                [(0, 1)], {(0, 1): 1}, "01", ((0, 1), (0, 1)), ((0, 2), (0, 1)), ((1, 0),), ((1, 1),), ((0, 3),),
                ((-1, 1),),
                ((0, 1, 2),), ((0,),), ([0, 1],), ((0, True),), ((False, 1),), ((0, 1.0),), ((0, 1), None),
                ((0, "1"),),
                ((0, None),), ((Stubborn(), 1),), ((0, Stubborn()),), ((0, 1), (Stubborn(), 2)), (0, 1)]:
            self.fault(Refused, "pairs", Clashes, 3, pairs)
        self.fault(Refused, "pairs", Clashes, 1, ((0, 1),))


class Rows(Case):

    def test_examples(self):
        self.assertEqual(row_of_four(PATH), (0, 1, 2, 3))
        self.assertIs(is_row_of_four(PATH, (0, 1, 2, 3)), True)
        self.assertIs(is_row_of_four(clashes=PATH, value=(3, 2, 1, 0)), False)
        self.assertIsNone(row_of_four(clashes=Clashes(4, ((0, 1), (0, 3), (1, 2), (2, 3)))))

    def test_any_value(self):
        wrong = STRANGE + ((0, 1, 2), (0, 1, 2, 3, 3), [0, 1, 2, 3], (0, True, 2, 3), (0, 1, 2, 4), (-4, 1, 2, 3),
                           (0, 1, 2, 3.0), (0, 1, 2, None), (False, 1, 2, 3), ("0", 1, 2, 3), (Stubborn(), 1, 2, 3),
                           (0, 1, 2, [3]))
        for value in wrong:
            self.assertIs(is_row_of_four(PATH, value), False)

    def test_all_small(self):
        for jobs in range(1, 6):
            for clashes in all_clashes(jobs):
                found = rows_of_four(clashes)
                self.assertEqual(row_of_four(clashes), found[0] if found else None)
                if jobs <= 4:
                    for value in itertools.product(range(jobs), repeat=4):
                        self.assertIs(is_row_of_four(clashes, value), value in found)

    def test_sixty_jobs(self):
        clashes = Clashes(60, tuple((i, i + 1) for i in range(59)))
        self.assertEqual(row_of_four(clashes), (0, 1, 2, 3))
        self.assertIsNone(clash_tree(clashes))
        halves = tuple(pair for pair in itertools.combinations(range(60), 2) if pair[0] < 30 <= pair[1])
        self.assertIsNone(row_of_four(Clashes(60, halves)))
        late = Clashes(60, halves[:-1])
        self.assertEqual(row_of_four(late), (29, 30, 0, 59))
        self.assertIs(is_row_of_four(late, (29, 30, 0, 59)), True)


class Trees(Case):

    def test_examples(self):
        clashes = Clashes(4, ((0, 1), (0, 2), (0, 3), (1, 2)))
        tree = ("turn", (("job", 0), ("beside", (("turn", (("job", 1), ("job", 2))), ("job", 3)))))
        self.assertEqual(clash_tree(clashes), tree)
        self.assertIs(is_clash_tree(clashes, tree), True)
        self.assertEqual(clash_tree(clashes=Clashes(1, ())), ("job", 0))
        self.assertIs(is_clash_tree(clashes=Clashes(1, ()), value=("job", 0)), True)
        self.assertEqual(clash_tree(Clashes(3, ())), ("beside", (("job", 0), ("job", 1), ("job", 2))))
        self.assertIsNone(clash_tree(PATH))

    def test_all_small(self):
        calm = 0
        for jobs in range(1, 6):
            for clashes in all_clashes(jobs):
                tree = clash_tree(clashes)
                self.assertIs(tree is None, row_of_four(clashes) is not None)
                if tree is not None:
                    calm += 1
                    self.assertTrue(tells(tree, clashes) and is_tidy(tree))
                    self.assertIs(is_clash_tree(clashes, tree), True)
        self.assertGreater(calm, 500)

    def test_other_trees(self):
        chance = random.Random(5)
        fine = 0
        for _ in range(1500):
            jobs = chance.randint(1, 5)
            tree = self.some_tree(chance, chance.sample(range(jobs), jobs))
            pairs = [pair for pair in itertools.combinations(range(jobs), 2) if clash_in(tree, *pair)]
            self.assertIs(is_clash_tree(Clashes(jobs, tuple(pairs)), tree), True)
            if pairs:
                self.assertIs(is_clash_tree(Clashes(jobs, tuple(pairs[1:])), tree), False)
            fine += not is_tidy(tree)
            other = chance.choice(list(all_clashes(min(jobs, 3))))
            self.assertIs(is_clash_tree(other, tree), tells(tree, other))
        self.assertGreater(fine, 100)

    def some_tree(self, chance, jobs):
        if len(jobs) == 1:
            return "job", jobs[0]
        cuts = sorted(chance.sample(range(1, len(jobs)), chance.randint(1, len(jobs) - 1)))
        parts = [jobs[one:other] for one, other in zip([0, *cuts], [*cuts, len(jobs)])]
        return chance.choice(("turn", "beside")), tuple(self.some_tree(chance, part) for part in parts)

    def test_any_value(self):
        clashes = Clashes(3, ((0, 1), (0, 2)))
        one, two, three = ("job", 0), ("job", 1), ("job", 2)
        fine = ("turn", (one, ("beside", (two, three))))
        self.assertIs(is_clash_tree(clashes, fine), True)
        wrong = STRANGE + (
            ("turn", [one, ("beside", (two, three))]), ["turn", (one, ("beside", (two, three)))],
            ("turn", (one, ("beside", (two,)))),
            ("turn", (one, ("beside", ()))), ("turn", (one, ("beside", (two, two)))), ("turn", (one, two)),
            ("turn", (one, ("beside", (two, three)), three)), ("turn", (one, ("beside", (two, ("job", 3))))),
            ("turn", (one, ("beside", (two, ("job", True))))), ("turn", (("job", False), ("beside", (two, three)))),
            ("turn", (one, ("beside", (two, ("job", None))))), ("turn", (one, ("and", (two, three)))),
            ("turn", (one, None)),
            ("turn", (one, ("beside", (two, ("job", 2, 2))))), ("turn", (one, ("beside", (two, ("job",))))),
            ("turn",),
            ("turn", (fine,)), (Stubborn(), (one, two)), ("turn", Stubborn()), ("job", Stubborn()),
            ("turn", (one, Stubborn())),
            ("turn", ((one, two), three)), ("turn", {one: 1, two: 2}), ("job", (0,)), ("turn", fine, one),
            ("turn", "ab"),
            ("turn", (one, ("beside", (two, ("job", -1))))), ("turn", (one, ("beside", (two, ("job", 2.0))))),
        )
        for value in wrong:
            self.assertIs(is_clash_tree(clashes, value), False)

    def test_parts_without_jobs(self):
        clashes = Clashes(4, ())
        jobs = [("job", number) for number in range(4)]
        self.assertIs(is_clash_tree(clashes, ("beside", (jobs[3], jobs[0], ("beside", (jobs[1], jobs[2]))))), True)
        for value in (
            ("beside", (jobs[0], jobs[1], ("beside", (jobs[2], jobs[3], jobs[0])))),
            ("beside", (jobs[0], jobs[1], jobs[2], ("beside", (jobs[3],)))),
            ("beside", (jobs[0], jobs[1], ("beside", (jobs[2], jobs[3], ("beside", ()))))),
            ("beside", (("beside", tuple(jobs)),)), ("beside", (*jobs, jobs[0])), ("beside", (*jobs, ("job", 4))),
        ):
            self.assertIs(is_clash_tree(clashes, value), False)

    def test_deep_values(self):
        clashes = Clashes(60, ())
        tree = ("job", 0)
        for job in range(1, 60):
            tree = ("beside", (tree, ("job", job)))
        self.assertIs(is_clash_tree(clashes, tree), True)
        for word in ("beside", "turn"):
            for first in (True, False):
                deep = ("job", 0)
                for _ in range(30000):
                    deep = (word, (deep, ("job", 1)) if first else (("job", 1), deep))
                self.assertIs(is_clash_tree(clashes, deep), False)
        deep = ("job", 0)
        for _ in range(30000):
            deep = ("turn", (deep, deep))
        self.assertIs(is_clash_tree(clashes, deep), False)
        self.assertIs(is_clash_tree(clashes, ("beside", (("job", 0),) * 10 ** 6)), False)
        self.assertIs(is_clash_tree(clashes, nested(30000)), False)

    def test_deep_tree(self):
        pairs = tuple(pair for pair in itertools.combinations(range(60), 2) if pair[0] % 2)
        tree = clash_tree(Clashes(60, pairs))
        self.assertTrue(tells(tree, Clashes(60, pairs)) and is_tidy(tree))
        self.assertIs(is_clash_tree(Clashes(60, pairs), tree), True)
        self.assertIs(is_clash_tree(Clashes(60, pairs[1:]), tree), False)
        self.assertEqual(len(clash_tree(Clashes(60, ()))[1]), 60)

    def test_one_end(self):
        chance = random.Random(6)
        for jobs in range(1, 5):
            for clashes in all_clashes(jobs):
                rows = list(boxes((2,) * jobs)) + [(3, 3, 1, 2)[:jobs], (1, 4, 3, 2)[:jobs]]
                calm = clash_tree(clashes) is not None
                if calm:
                    for lengths in chance.sample(rows, min(8, len(rows))):
                        self.assertEqual(ends(clashes, lengths), {heaviest(clashes, lengths)})
                else:
                    self.assertTrue(any(len(ends(clashes, lengths)) > 1 for lengths in rows))


class Books(Case):

    def test_examples(self):
        book = clash_book(PATH, ("a", "b", "c", "d"))
        self.assertEqual((book.kinds, book.ways), (EIGHT[:4], ((0, 1, 0, 1), (1, 0, 0, 1), (1, 0, 1, 0))))
        self.assertIsNone(clash_formula(PATH, ("a", "b", "c", "d")))
        book = clash_book(clashes=Clashes(3, ((0, 1), (0, 2))), names=("x", "z", "b"))
        self.assertEqual((book.kinds, book.ways), (("b", "x", "z"), ((0, 1, 0), (1, 0, 1))))
        self.assertEqual(clash_formula(clashes=Clashes(3, ((0, 1), (0, 2))), names=("x", "z", "b")),
                         ("or", (("and", (("kind", "b"), ("kind", "z"))), ("kind", "x"))))
        self.assertEqual(clash_formula(Clashes(1, ()), ("zz",)), ("kind", "zz"))
        self.assertEqual(clash_book(Clashes(8, ()), EIGHT).ways, ((1,) * 8,))
        self.assertEqual(len(clash_book(Clashes(8, ((0, 1), (2, 3), (4, 5), (6, 7))), EIGHT).ways), 16)

    def test_all_small(self):
        chance = random.Random(7)
        for jobs in range(1, 6):
            for clashes in all_clashes(jobs):
                names = tuple(chance.sample("abcdefgh", jobs))
                book = clash_book(clashes, names)
                free = [
                    lot for count in range(jobs + 1) for lot in itertools.combinations(range(jobs), count)
                    if not any(pair in clashes.pairs for pair in itertools.combinations(lot, 2))
                ]
                great = [lot for lot in free if not any(set(lot) < set(other) for other in free)]
                ways = sorted(tuple(int(names.index(kind) in lot) for kind in book.kinds) for lot in great)
                self.assertEqual((book.kinds, book.ways), (tuple(sorted(names)), tuple(ways)))
                self.check_formula_of(clashes, names, book)

    def check_formula_of(self, clashes, names, book):
        formula = clash_formula(clashes, names)
        calm = not rows_of_four(clashes)
        self.assertIs(formula is not None, calm)
        self.assertIs(not stories(book.ways), calm)
        if calm:
            self.assertIsNone(check_formula(formula))
            self.assertEqual(normal(formula), formula)
            self.assertEqual(formula_ways(formula, book.kinds), set(book.ways))

    def test_refused(self):
        nine = Clashes(9, ())
        for names in STRANGE + (EIGHT + ("i",), None):
            self.fault(Refused, "wide", clash_book, nine, names)
            self.fault(Refused, "wide", clash_formula, nine, names)
        wrong = STRANGE + (
            EIGHT[:3], EIGHT[:5], ["a", "b", "c", "d"], "abcd", {"a": 1, "b": 2, "c": 3, "d": 4}, ("a", "b", "c", "a"),
            ("a", "b", "c", "D"), ("a", "b", "c", ""), ("a", "b", "c", 1), ("a", "b", "c", Stubborn()),
            ("a", "b", "c", "dddddd"), ("a", "b", "c", ("d",)), ("a", "b", "c", ["d"]),
        )
        for names in wrong:
            self.fault(Refused, "names", clash_book, PATH, names)
            self.fault(Refused, "names", clash_formula, PATH, names)


if __name__ == "__main__":
    unittest.main()
