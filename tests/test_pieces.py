"""[31], [33]: numbers of pieces, and more of a kind."""

import random
import unittest

from asmany.errors import InvalidNumber, InvalidPool, Refused
from asmany.pieces import check_pool_of, needed, pieces, pieces_with_plenty, short_kinds
from plain import STRANGE, Case, Stubborn, boxes, formula_ways, lengths, named, some_formulas, strange_lots
from plain import strange_numbers, subsets

A, B, C, D, E, F, G, H = EIGHT = tuple(("kind", name) for name in "abcdefgh")
FORMULA = ("many", 2, ("or", (A, ("and", (B, C)))))
GREAT = 10 ** 18


def some_pools(seed, formula, many, top=7):
    """Some pools of a formula."""
    chance = random.Random(seed)
    return [tuple(chance.randint(0, chance.choice((2, top))) for _ in named(formula)) for _ in range(many)]


def one_length(ways, pool, known):
    """The only length of full runs, from a walk through all of them."""
    found = lengths(ways, pool, known)
    assert len(found) == 1
    return found[0]


class Pieces(Case):

    def test_examples(self):
        self.assertEqual(pieces(FORMULA, (1, 0, 1)), 0)
        self.assertEqual(pieces(formula=FORMULA, pool=(1, 2, 3)), 1)
        self.assertEqual(pieces(FORMULA, (GREAT, GREAT, GREAT - 1)), GREAT - 1)
        self.assertEqual(pieces(("or", EIGHT), (GREAT,) * 8), 8 * GREAT)
        self.assertEqual(pieces(("many", 60, ("or", EIGHT)), (GREAT,) * 8), 8 * GREAT // 60)
        self.assertEqual(pieces(A, (0,)), 0)
        self.assertIsNone(check_pool_of(formula=FORMULA, value=(0, GREAT, 5)))

    def test_all_full_runs(self):
        """All full runs have this length; one way less of the pool is one piece less."""
        for formula in some_formulas(310, 120, kinds=4, top=6):
            kinds = named(formula)
            ways = sorted(formula_ways(formula, kinds))
            known = {}
            for pool in some_pools(311, formula, 12):
                number = pieces(formula, pool)
                self.assertEqual(lengths(ways, pool, known), (number,))
                for way in ways:
                    if all(x <= y for x, y in zip(way, pool)):
                        self.assertEqual(pieces(formula, tuple(y - x for x, y in zip(way, pool))), number - 1)
                for k in range(len(kinds)):
                    more = pieces(formula, pool[:k] + (pool[k] + 1,) + pool[k + 1:])
                    self.assertIn(more - number, (0, 1))

    def test_wrong_pools(self):
        calls = ((check_pool_of, ()), (pieces, ()), (short_kinds, ()), (needed, (None, None)),
                 (pieces_with_plenty, (None,)))
        for call, more in calls:
            for pool in STRANGE + ((1, 1), (1,) * 4, [1, 1, 1], "abc"):
                if pool.__class__ is not tuple or len(pool) != 3:
                    self.fault(InvalidPool, -1, call, FORMULA, pool, *more)
            for item in STRANGE + (GREAT + 1,):
                if item.__class__ is not int or not 0 <= item <= GREAT:
                    self.fault(InvalidPool, 0, call, FORMULA, (item,) * 3, *more)
                    self.fault(InvalidPool, 2, call, FORMULA, (0, GREAT, item), *more)


class MoreOfAKind(Case):

    def test_examples(self):
        self.assertEqual(needed(FORMULA, (1, 0, 1), "a", 1), 2)
        self.assertIsNone(needed(FORMULA, (1, 0, 1), "c", 1))
        self.assertEqual(short_kinds(FORMULA, (1, 0, 1)), ("a", "b"))
        self.assertEqual(short_kinds(formula=FORMULA, pool=(GREAT,) * 3), ("a",))
        self.assertEqual(needed(formula=FORMULA, pool=(GREAT,) * 3, kind="a", many=10 ** 30), 2 * 10 ** 30 - GREAT)
        self.assertEqual(needed(FORMULA, (GREAT,) * 3, "b", 0), 0)
        self.assertEqual(needed(("and", (A, B)), (0, 0), "b", 0), 0)
        self.assertIsNone(needed(("and", (A, B)), (5, 0), "b", 6))
        self.assertEqual(needed(("many", 60, A), (7,), "a", GREAT), 60 * GREAT)
        self.assertIsNone(pieces_with_plenty(formula=FORMULA, pool=(1, 0, 1), lot=("a",)))
        self.assertEqual(pieces_with_plenty(FORMULA, (1, 0, 3), ("b",)), 2)
        self.assertIsNone(pieces_with_plenty(FORMULA, (1, 0, 3), ("b", "c")))
        self.assertEqual(pieces_with_plenty(FORMULA, (1, 0, 3), ()), 0)

    def test_needed(self):
        for formula in some_formulas(330, 80, kinds=4, top=6):
            kinds = named(formula)
            ways = sorted(formula_ways(formula, kinds))
            size = [max(way[k] for way in ways) for k in range(len(kinds))]
            known = {}
            for pool in some_pools(331, formula, 5):
                for k, kind in enumerate(kinds):
                    pools = [pool[:k] + (amount,) + pool[k + 1:] for amount in range(26)]
                    numbers = [one_length(ways, one, known) for one in pools]
                    found = [needed(formula, pool, kind, many) for many in range(5)]
                    for many, amount in enumerate(found):
                        reached = [at for at, number in enumerate(numbers) if number >= many]
                        self.assertEqual(amount, reached[0] if reached else None)
                        # One piece more needs so much more as the kind's size.
                        if many < 4 and amount and found[many + 1] is not None:
                            self.assertEqual(found[many + 1], amount + size[k])

    def test_plenty(self):
        """More makes more pieces exactly if each tight side has one of the kinds."""
        told = [0, 0]
        for formula in some_formulas(332, 120, kinds=4, top=4):
            kinds = named(formula)
            ways = sorted(formula_ways(formula, kinds))
            sides = self.sides(ways, len(kinds))
            known = {}
            for pool in some_pools(333, formula, 4, top=5):
                number = one_length(ways, pool, known)
                tight = [side for side in sides if self.side_number(formula, kinds, side, pool) == number]
                self.assertTrue(tight)
                for lot in subsets(kinds):
                    inside = {kinds.index(kind) for kind in lot}
                    more = all(inside & set(side) for side in tight)
                    told[more] += 1
                    found = pieces_with_plenty(formula, pool, lot)
                    self.assertIs(found is None or found > number, more)
                    rest = [tuple(0 if k in inside else x for k, x in enumerate(way)) for way in ways]
                    if not all(map(any, rest)):
                        self.assertIsNone(found)
                    else:
                        wide = tuple(10 ** 6 if k in inside else x for k, x in enumerate(pool))
                        self.assertEqual(found, pieces(formula, wide))
                short = tuple(kind for k, kind in enumerate(kinds) if all(k in side for side in tight))
                self.assertEqual(short_kinds(formula, pool), short)
        self.assertGreater(min(told), 300)

    def sides(self, ways, count):
        """The least lots of kinds of which each way uses one."""
        lots = [lot for lot in subsets(range(count)) if all(any(way[k] for k in lot) for way in ways)]
        return [lot for lot in lots if not any(set(one) < set(lot) for one in lots)]

    def side_number(self, formula, kinds, side, pool):
        """The pieces if only the kinds of the side are scarce."""
        wide = tuple(amount if k in side else 10 ** 6 for k, amount in enumerate(pool))
        return pieces(formula, wide)

    def test_wrong_kinds(self):
        pool = (1, 2, 3)
        for kind in list(STRANGE) + ["d", "ab", "", ("a",), ["a"], Stubborn(), b"a", 0]:
            if kind.__class__ is str and kind == "a":
                continue
            self.fault(Refused, "kind", needed, FORMULA, pool, kind, 1)
            self.fault(Refused, "kind", needed, FORMULA, pool, kind, None)

    def test_wrong_numbers(self):
        for many in strange_numbers():
            self.fault(InvalidNumber, "many", needed, FORMULA, (1, 2, 3), "b", many)

    def test_wrong_lots(self):
        for lot in strange_lots():
            self.fault(Refused, "lot", pieces_with_plenty, FORMULA, (1, 2, 3), lot)

    def test_deep(self):
        formula = A
        for at, kind in enumerate(EIGHT[1:]):
            formula = (("and", "or")[at % 2], (kind, formula))
        for number in (2, 2, 3, 5):
            formula = ("many", number, formula)
        for pool in boxes((1,) * 8):
            great = tuple(amount * GREAT for amount in pool)
            self.assertEqual(pieces(formula, great) > 0, pieces(formula, tuple(60 * x for x in pool)) > 0)


if __name__ == "__main__":
    unittest.main()
