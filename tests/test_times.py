"""[70], [71], [72], and what stands before [67]: prompt timetables and their ends."""

import itertools
import random
import unittest

from asmany.clashes import Clashes, clash_book, clash_tree, row_of_four
from asmany.errors import InvalidNumber, Refused
from asmany.stories import first_story
from asmany.times import heaviest_lot, is_prompt, latest_starts, prompt_ends, prompt_starts, remaining, sure_end
from asmany.times import two_ends
from plain import STRANGE, Case, Stubborn, boxes, rounds, strange_but, strange_numbers

PATH = Clashes(4, ((0, 1), (1, 2), (2, 3)))
STAR = Clashes(4, ((0, 1), (0, 2), (0, 3)))
GREAT = 10 ** 18


def all_clashes(jobs):
    """All clashes of so many jobs."""
    pairs = list(itertools.combinations(range(jobs), 2))
    for chosen in itertools.product((False, True), repeat=len(pairs)):
        yield Clashes(jobs, tuple(pair for pair, there in zip(pairs, chosen) if there))


def some_clashes(seed, many, jobs):
    chance = random.Random(seed)
    for _ in range(many):
        pairs = [pair for pair in itertools.combinations(range(jobs), 2) if chance.random() < 0.5]
        yield Clashes(jobs, tuple(pairs))


def calm_clashes(seed, many, jobs):
    """Calm clashes of so many jobs: put together from parts beside one another or by turns."""
    chance = random.Random(seed)
    for _ in range(many):
        pairs, parts = [], [[job] for job in chance.sample(range(jobs), jobs)]
        while len(parts) > 1:
            one, other = parts.pop(chance.randrange(len(parts))), parts.pop(chance.randrange(len(parts)))
            if chance.random() < 0.5:
                pairs.extend(tuple(sorted(pair)) for pair in itertools.product(one, other))
            parts.append(one + other)
        yield Clashes(jobs, tuple(sorted(pairs)))


def clash(clashes, i, j):
    return (min(i, j), max(i, j)) in clashes.pairs


def prompt(clashes, lengths, starts):
    """Whether numbers are a prompt timetable, by a walk through all moments."""
    jobs = range(clashes.jobs)
    running = [{moment for moment in range(starts[job], starts[job] + lengths[job])} for job in jobs]
    if any(starts[job] and not lengths[job] for job in jobs):
        return False
    if any(clash(clashes, i, j) and running[i] & running[j] for i, j in itertools.combinations(jobs, 2)):
        return False
    return all(any(clash(clashes, job, other) and moment in running[other] for other in jobs)
               for job in jobs for moment in range(starts[job]))


def all_prompt(clashes, lengths):
    """All prompt timetables, by the definition."""
    tops = [sum(lengths) - length if length else 0 for length in lengths]
    return [starts for starts in boxes(tops) if prompt(clashes, lengths, starts)]


def end_of(lengths, starts):
    return max(start + length for start, length in zip(starts, lengths))


def heaviest(clashes, lengths, job=None):
    """The greatest sum of the lengths of jobs each two of which clash, perhaps with a told one."""
    return max(sum(lengths[one] for one in lot) for count in range(1, clashes.jobs + 1)
               for lot in itertools.combinations(range(clashes.jobs), count)
               if (job is None or job in lot) and all(clash(clashes, i, j) for i, j in itertools.combinations(lot, 2)))


class Timetables(Case):

    def test_examples(self):
        self.assertEqual(prompt_starts(clashes=PATH, lengths=(1, 1, 1, 1), order=(0, 3, 1, 2)), (0, 1, 2, 0))
        self.assertEqual(prompt_starts(PATH, (1, 1, 1, 1), (0, 2, 1, 3)), (0, 1, 0, 1))
        self.assertEqual(prompt_ends(clashes=PATH, lengths=(1, 1, 1, 1)), (2, 3))
        self.assertIs(is_prompt(clashes=PATH, lengths=(1, 1, 1, 1), value=(0, 1, 2, 0)), True)
        self.assertIs(is_prompt(PATH, (1, 1, 1, 1), (0, 1, 2, 1)), False)
        self.assertEqual(remaining(clashes=PATH, lengths=(5, 4, 3, 5), starts=(0, 5, 9, 0), moment=6), (0, 3, 3, 0))
        self.assertEqual(prompt_starts(STAR, (2, 3, 0, 1), (3, 2, 1, 0)), (3, 0, 0, 0))

    def test_all_prompt_timetables(self):
        """They are those that come when waiting jobs are gone through in some sequence."""
        for clashes in [*all_clashes(2), *all_clashes(3), *list(all_clashes(4))[::3]]:
            for lengths in ((1, 1, 1, 1), (1, 2, 1, 2), (2, 1, 0, 1), (0, 0, 0, 0), (1, 0, 3, 0)):
                lengths = lengths[:clashes.jobs]
                found = all_prompt(clashes, lengths)
                orders = itertools.permutations(range(clashes.jobs))
                self.assertEqual({prompt_starts(clashes, lengths, order) for order in orders}, set(found))
                self.assertEqual(prompt_ends(clashes, lengths), tuple(sorted({end_of(lengths, row) for row in found})))
                tops = [min(sum(lengths), 3)] * clashes.jobs
                for starts in boxes(tops):
                    self.assertIs(is_prompt(clashes, lengths, starts), starts in found)

    def test_many_jobs(self):
        chance = random.Random(70)
        for clashes in some_clashes(701, 30, 6):
            lengths = tuple(chance.choice((0, 1, 2, 3, 5)) for _ in range(6))
            found = set()
            for order in itertools.permutations(range(6)):
                starts = prompt_starts(clashes, lengths, order)
                found.add(starts)
            for starts in found:
                self.assertTrue(prompt(clashes, lengths, starts))
                self.assertIs(is_prompt(clashes, lengths, starts), True)
                for job in range(6):
                    for more in (-1, 1, 2):
                        other = tuple(start + more * (at == job) for at, start in enumerate(starts))
                        if min(other) >= 0:
                            self.assertIs(is_prompt(clashes, lengths, other), prompt(clashes, lengths, other))
            self.assertEqual(prompt_ends(clashes, lengths), tuple(sorted({end_of(lengths, row) for row in found})))

    def test_eight_lengths(self):
        chance = random.Random(702)
        for share in (0.1, 0.3, 0.5, 0.7, 0.9, 1):
            pairs = tuple(pair for pair in itertools.combinations(range(12), 2) if chance.random() < share)
            clashes = Clashes(12, pairs)
            lengths = tuple(chance.randint(1, GREAT) if job < 8 else 0 for job in range(12))
            ends = prompt_ends(clashes, lengths)
            self.assertEqual(list(ends), sorted(set(ends)))
            for _ in range(40):
                starts = prompt_starts(clashes, lengths, tuple(chance.sample(range(12), 12)))
                self.assertIn(end_of(lengths, starts), ends)
            self.fault(Refused, "wide", prompt_ends, clashes, lengths[:8] + (1, 0, 0, 0))
        self.assertEqual(prompt_ends(Clashes(60, ()), (0,) * 60), (0,))
        self.assertEqual(prompt_ends(Clashes(60, ()), (0,) * 59 + (7,)), (7,))
        self.fault(Refused, "wide", prompt_ends, Clashes(60, ()), (1,) * 60)

    def test_remaining(self):
        """From a moment of a prompt timetable on it goes on as one of what remains."""
        chance = random.Random(71)
        for clashes in some_clashes(703, 40, 5):
            lengths = tuple(chance.choice((0, 1, 2, 3, 5)) for _ in range(5))
            starts = prompt_starts(clashes, lengths, tuple(chance.sample(range(5), 5)))
            for moment in range(end_of(lengths, starts) + 2):
                rest = tuple(sum(starts[job] <= at < starts[job] + lengths[job] for at in range(moment, 30))
                             for job in range(5))
                self.assertEqual(remaining(clashes, lengths, starts, moment), rest)
                later = tuple(max(start - moment, 0) if left else 0 for start, left in zip(starts, rest))
                self.assertIs(is_prompt(clashes, rest, later), True)
        self.assertEqual(remaining(PATH, (GREAT, 1, GREAT, 1), (0, GREAT, 0, GREAT), GREAT - 3), (3, 1, 3, 1))
        self.assertEqual(remaining(PATH, (1, 1, 1, 1), (0, 1, 0, 1), 10 ** 40), (0, 0, 0, 0))

    def test_sixty_jobs(self):
        chance = random.Random(704)
        for clashes in some_clashes(705, 4, 60):
            lengths = tuple(chance.choice((0, chance.randint(1, GREAT))) for _ in range(60))
            starts = prompt_starts(clashes, lengths, tuple(chance.sample(range(60), 60)))
            self.assertIs(is_prompt(clashes, lengths, starts), True)
            late = max(range(60), key=lambda job: starts[job])
            self.assertIs(is_prompt(clashes, lengths, starts[:late] + (starts[late] + 1,) + starts[late + 1:]), False)
        together = Clashes(60, tuple(itertools.combinations(range(60), 2)))
        starts = prompt_starts(together, (GREAT,) * 60, tuple(reversed(range(60))))
        self.assertEqual(starts, tuple(GREAT * (59 - job) for job in range(60)))
        self.assertIs(is_prompt(together, (GREAT,) * 60, starts), True)


class Calm(Case):

    def test_examples(self):
        self.assertEqual(sure_end(clashes=STAR, lengths=(2, 3, 0, 7)), 9)
        self.assertEqual(heaviest_lot(clashes=STAR, lengths=(2, 3, 0, 7)), (0, 3))
        self.assertEqual(latest_starts(clashes=STAR, lengths=(2, 3, 0, 7)), (7, 2, 0, 2))

    def test_one_end(self):
        """All prompt timetables end with the heaviest jobs that clash, and at each moment before one of them runs."""
        chance = random.Random(72)
        for clashes in [*all_clashes(3), *list(all_clashes(4)), *calm_clashes(710, 60, 6)]:
            if row_of_four(clashes) is not None:
                continue
            jobs = clashes.jobs
            for _ in range(2):
                lengths = tuple(chance.choice((0, 1, 2, 4, 7)) for _ in range(jobs))
                found = {prompt_starts(clashes, lengths, order) for order in itertools.permutations(range(jobs))}
                end = heaviest(clashes, lengths)
                self.assertEqual({end_of(lengths, row) for row in found}, {end})
                self.assertEqual(sure_end(clashes, lengths), end)
                lot = heaviest_lot(clashes, lengths)
                self.assertEqual(sum(lengths[job] for job in lot), end)
                self.assertEqual(list(lot), sorted(set(lot)))
                self.assertTrue(all(clash(clashes, i, j) for i, j in itertools.combinations(lot, 2)))
                for row in found:
                    for moment in range(end + 2):
                        self.assertEqual(any(row[job] <= moment < row[job] + lengths[job] for job in lot), moment < end)
                        rest = remaining(clashes, lengths, row, moment)
                        self.assertEqual(sure_end(clashes, rest), max(end - moment, 0))
                latest = tuple(max(row[job] for row in found) for job in range(jobs))
                self.assertEqual(latest_starts(clashes, lengths), latest)
                for job in range(jobs):
                    if lengths[job]:
                        self.assertEqual(latest[job], heaviest(clashes, lengths, job) - lengths[job])

    def test_sixty_jobs(self):
        chance = random.Random(73)
        for clashes in calm_clashes(711, 4, 60):
            lengths = tuple(chance.randint(0, GREAT) for _ in range(60))
            end = sure_end(clashes, lengths)
            self.assertEqual(sum(lengths[job] for job in heaviest_lot(clashes, lengths)), end)
            latest = latest_starts(clashes, lengths)
            for _ in range(3):
                order = chance.sample(range(60), 60)
                starts = prompt_starts(clashes, lengths, tuple(order))
                self.assertEqual(end_of(lengths, starts), end)
                self.assertTrue(all(one <= other for one, other in zip(starts, latest)))
                self.assertEqual(sure_end(clashes, remaining(clashes, lengths, starts, end // 3)), end - end // 3)
            job = chance.randrange(60)
            last = prompt_starts(clashes, lengths, tuple(one for one in order if one != job) + (job,))
            self.assertLessEqual(last[job], latest[job])

    def test_deep_trees(self):
        pairs = tuple((i, j) for i, j in itertools.combinations(range(60), 2) if i % 2 == 0)
        clashes = Clashes(60, pairs)
        self.assertIsNone(row_of_four(clashes))
        self.assertEqual(sure_end(clashes, (1,) * 60), 31)
        self.assertEqual(latest_starts(clashes, (1,) * 60)[59], 30)

    def test_uneven(self):
        for call in (sure_end, heaviest_lot, latest_starts):
            self.fault(Refused, "row", call, PATH, (1, 1, 1, 1))
            self.fault(Refused, "row", call, PATH, (0, 0, 0, 0))
            self.fault(InvalidNumber, "lengths", call, PATH, None)

    def test_sessions(self):
        """The end is the number of sessions of the lengths by the book of the clashes."""
        chance = random.Random(74)
        some = 0
        for clashes in [*list(all_clashes(4))[::2], *calm_clashes(712, 10, 5)]:
            names = tuple("cadbe"[:clashes.jobs])
            book = clash_book(clashes, names)
            calm = clash_tree(clashes) is not None
            self.assertIs(first_story(book) is None, calm)
            if calm:
                lengths = tuple(chance.randint(0, 2) for _ in names)
                demand = tuple(lengths[names.index(kind)] for kind in book.kinds)
                self.assertEqual(tuple(rounds(book.ways, demand)[0]), (sure_end(clashes, lengths),))
                some += 1
        self.assertGreater(some, 25)


class TwoEnds(Case):

    def check(self, clashes, least):
        found = two_ends(clashes, least=least)
        self.assertIs(found is None, row_of_four(clashes) is None)
        if found is not None:
            lengths, starts, other = found
            self.assertEqual(len(lengths), clashes.jobs)
            self.assertTrue(all(least <= length <= GREAT for length in lengths))
            self.assertIs(is_prompt(clashes, lengths, starts), True)
            self.assertIs(is_prompt(clashes, lengths, other), True)
            self.assertNotEqual(end_of(lengths, starts), end_of(lengths, other))
            if sum(lengths) < 100:
                self.assertTrue(prompt(clashes, lengths, starts) and prompt(clashes, lengths, other))

    def test_small(self):
        for jobs in range(1, 6):
            for clashes in all_clashes(jobs):
                self.check(clashes, 0)
                if jobs < 5:
                    self.check(clashes, 3)
        self.assertEqual(two_ends(clashes=PATH)[0], (1, 1, 1, 1))
        self.check(PATH, 10 ** 9)

    def test_more(self):
        for jobs in (6, 7, 8):
            for clashes in some_clashes(720 + jobs, 40, jobs):
                for least in (0, 1, 2, 10 ** 9):
                    self.check(clashes, least)
        for clashes in some_clashes(729, 4, 60):
            for least in (0, 1, 10 ** 9):
                self.check(clashes, least)
        for clashes in calm_clashes(728, 10, 20):
            self.assertIsNone(two_ends(clashes, least=1))

    def test_wrong_least(self):
        for least in strange_numbers() + [10 ** 9 + 1]:
            self.fault(InvalidNumber, "least", two_ends, PATH, least=least)
            self.fault(InvalidNumber, "least", two_ends, STAR, least=least)
        with self.assertRaises(TypeError):
            two_ends(PATH, 0)


class Wrong(Case):

    def test_lengths(self):
        calls = ((is_prompt, (None,)), (prompt_starts, (None,)), (prompt_ends, ()), (remaining, (None, None)), (sure_end, ()),
                 (heaviest_lot, ()), (latest_starts, ()))
        for call, more in calls:
            for lengths in list(strange_but(4)) + [[1, 1, 1, 1], "1111", (1, 1, 1), (1,) * 5]:
                self.fault(InvalidNumber, "lengths", call, STAR, lengths, *more)
            for item in strange_numbers() + [GREAT + 1]:
                self.fault(InvalidNumber, "lengths", call, STAR, (1, 1, item, 1), *more)

    def test_order(self):
        for order in STRANGE + ((0, 1, 2), (0, 1, 2, 2), (0, 1, 2, 4), [0, 1, 2, 3], (0, 1, 2, 3, 3), (0, True, 2, 3),
                                (0, 1.0, 2, 3), (0, 1, 2, None), (0, 1, 2, "3"), (Stubborn(), 1, 2, 3), (0, 1, 2, -3), "0123"):
            self.fault(Refused, "order", prompt_starts, STAR, (1, 1, 1, 1), order)

    def test_timetables(self):
        for value in STRANGE + ((0, 1, 1), [0, 1, 1, 1], (0, 1, 1, 1, 1), (False, 1, 1, 1), (0, 1, 1, 1.0), (0, 1, 1, None),
                                (Stubborn(), 1, 1, 1), (0, 1, 1, 2), (0, 1, 1, -1), (0, 1, 0, 1), (1, 1, 1, 1), "0111"):
            self.assertIs(is_prompt(STAR, (1, 1, 1, 1), value), False)
            self.fault(Refused, "starts", remaining, STAR, (1, 1, 1, 1), value, None)
        self.assertIs(is_prompt(STAR, (1, 0, 1, 1), (0, 1, 1, 1)), False)
        self.assertIs(is_prompt(STAR, (1, 0, 1, 1), (0, 0, 1, 1)), True)
        self.assertIs(is_prompt(STAR, (0, 0, 0, 0), (0, 0, 0, 0)), True)
        self.assertIs(is_prompt(STAR, (0, 0, 0, 0), (0, 0, 0, 1)), False)

    def test_moments(self):
        for moment in strange_numbers():
            self.fault(InvalidNumber, "moment", remaining, STAR, (1, 1, 1, 1), (0, 1, 1, 1), moment)


if __name__ == "__main__":
    unittest.main()
