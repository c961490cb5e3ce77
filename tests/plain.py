"""What the tests share: strange values, and plain walks that use nothing of the program."""

import itertools
import random
import unittest


class Stubborn:
    """An object that refuses to be compared, measured, iterated, or tested."""

    at = word = kinds = ways = formula = story = lot = tree = None

    def refuse(self, *_):
        raise RuntimeError("touched")

    __eq__ = __lt__ = __le__ = __gt__ = __ge__ = __ne__ = refuse
    __len__ = __bool__ = __iter__ = __contains__ = __getitem__ = refuse
    __add__ = __radd__ = __sub__ = __index__ = __int__ = __repr__ = refuse
    __hash__ = object.__hash__


def nested(depth):
    """A tuple nested deeper than any formula."""
    value = ()
    for _ in range(depth):
        value = (value, value)
    return value


STRANGE = (
    None, True, False, -1, 1.0, 10 ** 30, "", "a", "many", b"a", [], [0], [(1,)], {}, {"a": 1},
    (), (()), ((),), (None,), (True,), (False,), ("a",), ((1,), [1]), ([1],), (-1,), (1.0,), (("a", -1),),
    {1, 2}, frozenset(("a",)), object(), int, nested(3), nested(5000), Stubborn(), (Stubborn(),),
    (Stubborn(), Stubborn()), (Stubborn(), Stubborn(), Stubborn()), range(1), len,
)


def strange_but(count):
    """The strange values that are no tuples of so many items."""
    return tuple(value for value in STRANGE if value.__class__ is not tuple or len(value) != count)


def strange_lots():
    """Values that are no lot of the kinds a, b, c and so on: the strange ones, and some more."""
    found = [value for value in STRANGE if value.__class__ is not tuple or len(value) > 1
             or len(value) == 1 and value[0].__class__ is not str]
    return found + [("b", "a"), ("a", "a"), ("z",), ("a", "z"), ("a", None), ("A",), ((),), "ab", ["b"], ("", "a")]


def strange_numbers():
    """Values that are no number."""
    return [value for value in STRANGE if value.__class__ is not int or value < 0] + ["1", (1,), [1], {1: 1}]


class Case(unittest.TestCase):
    """A test case that asks for the class and the attribute of an error."""

    def fault(self, error, told, call, *args, **more):
        with self.assertRaises(error) as caught:
            call(*args, **more)
        self.assertIs(caught.exception.__class__, error)
        held = vars(caught.exception)
        self.assertEqual(len(held), 1, held)
        value = held.get("word", held.get("at"))
        self.assertEqual(value, told)
        self.assertIs(value.__class__, told.__class__)


def within(small, large):
    return all(x <= y for x, y in zip(small, large))


def plus(one, other):
    return tuple(x + y for x, y in zip(one, other))


def minus(one, other):
    return tuple(x - y for x, y in zip(one, other))


def boxes(tops):
    """All tuples of numbers up to the tops."""
    return itertools.product(*[range(top + 1) for top in tops])


def subsets(items):
    """All lots of some ascending items."""
    for count in range(len(items) + 1):
        yield from itertools.combinations(items, count)


def full_runs(ways, pool):
    """All full runs from a pool, in ascending order."""
    found = []
    for number, way in enumerate(ways):
        if within(way, pool):
            found.extend((number, *run) for run in full_runs(ways, minus(pool, way)))
    return found or [()]


def lengths(ways, pool, known=None):
    """The lot of the lengths of all full runs by ways, perhaps longer ones, from a pool."""
    known = {} if known is None else known
    if pool not in known:
        found = set()
        for way in ways:
            if within(way, pool):
                found.update(more + 1 for more in lengths(ways, minus(pool, way), known))
        known[pool] = found or {0}
    return tuple(sorted(known[pool]))


def least(ways):
    """Those tuples that no other one is within, each once, ascending."""
    return tuple(sorted(set(
        way for way in ways if not any(other != way and within(other, way) for other in ways)
    )))


def least_lots(lots):
    """Those lots that contain no other one, each once, ascending."""
    return tuple(sorted(set(
        lot for lot in lots if not any(set(other) < set(lot) for other in lots)
    )))


def stories(ways):
    """All stories of ways, by the definition."""
    found = []
    for s, t, u in itertools.product(range(len(ways)), repeat=3):
        pool = tuple(max(x, y + z) for x, y, z in zip(ways[s], ways[t], ways[u]))
        rest = minus(pool, ways[s])
        if not any(within(way, rest) for way in ways):
            found.append((s, t, u))
    return found


def plain_sessions(ways, demand):
    """All sessions of a demand by the definition."""
    served = [row for row in boxes(demand) if any(row) and any(within(row, way) for way in ways)]
    return tuple(row for row in served if not any(row != one and within(row, one) for one in served))


def rounds(ways, demand, known=None):
    """A dict from the lengths of complete rounds to the first one of each, and their number."""
    known = {} if known is None else known
    if demand not in known:
        found, count = {}, 0
        for session in plain_sessions(ways, demand):
            later, more = rounds(ways, minus(demand, session), known)
            count += more
            for length, rest in later.items():
                found.setdefault(length + 1, (session, *rest))
        known[demand] = (found, count) if any(demand) else ({0: ()}, 1)
    return known[demand]


def served(ways, amounts):
    """Whether some way has the amounts within it."""
    return any(within(amounts, way) for way in ways)


def kinds_and_ways(rows):
    """Kinds and ways of a book with the least ones of some rows, or None."""
    rows = least([row for row in rows if any(row)])
    if not rows:
        return None
    used = [k for k in range(len(rows[0])) if any(row[k] for row in rows)]
    ways = tuple(sorted(tuple(row[k] for k in used) for row in rows))
    return tuple("abcdefgh"[k] for k in used), ways


def some_books(seed, many, kinds=4, ways=5, top=2):
    """Pairs of kinds and ways of so many small books, always the same ones."""
    chance = random.Random(seed)
    return [a_book(chance, kinds, ways, top) for _ in range(many)]


def a_book(chance, kinds, ways, top):
    """Kinds and ways of a book with up to so many kinds and ways, amounts up to `top`."""
    count = max(1, chance.choice((1, kinds - 1, kinds, kinds)))
    size = chance.randint(1, ways)
    share = chance.choice((1, 2, 2))
    rows = []
    while not rows or len(rows) < size and chance.randint(0, 40):
        row = tuple(chance.randint(1, top) if chance.randint(0, 2) < share else 0 for _ in range(count))
        if any(row) and not any(within(row, one) or within(one, row) for one in rows):
            rows.append(row)
    return kinds_and_ways(rows)


def wide_book(seed):
    """Kinds and ways of a book with 8 kinds and 200 ways, always the same one for a seed."""
    chance = random.Random(seed)
    rows = []
    while len(rows) < 200:
        row = tuple(chance.randint(0, 60) if chance.random() < 0.7 else 0 for _ in range(8))
        if any(row) and not any(within(row, one) or within(one, row) for one in rows):
            rows.append(row)
    return tuple("abcdefgh"), tuple(sorted(rows))


def all_small_books():
    """Kinds and ways of all books with up to two kinds and amounts up to 3, or three and 1."""
    found = {}
    for count, top in ((1, 3), (2, 3), (3, 1)):
        rows = [row for row in boxes((top,) * count) if any(row)]
        for size in range(1, 5):
            for chosen in itertools.combinations(rows, size):
                if least(chosen) == tuple(sorted(chosen)):
                    found[kinds_and_ways(chosen)] = True
    return list(found)


def some_formulas(seed, many, kinds=4, top=6):
    """So many formulas with up to so many kinds, always the same ones."""
    chance = random.Random(seed)
    found = []
    while len(found) < many:
        names = chance.sample("abcdefgh"[:kinds], chance.randint(1, kinds))
        found.append(a_formula(chance, names, top))
    return found


def a_formula(chance, names, room):
    """A formula with just these kinds in which the numbers multiply to at most `room`."""
    if room >= 2 and chance.random() < 0.3:
        number = chance.randint(2, min(room, 4))
        return "many", number, a_formula(chance, names, room // number)
    if len(names) == 1:
        return "kind", names[0]
    cuts = sorted(chance.sample(range(1, len(names)), chance.randint(1, len(names) - 1)))
    parts = [names[one:other] for one, other in zip([0, *cuts], [*cuts, len(names)])]
    return chance.choice(("and", "or")), tuple(a_formula(chance, part, room) for part in parts)


def formula_ways(formula, kinds):
    """All ways of a formula by the definition, as a set of tuples in the order of the kinds."""
    if formula[0] == "kind":
        return {tuple(int(kind == formula[1]) for kind in kinds)}
    if formula[0] == "or":
        return set().union(*[formula_ways(part, kinds) for part in formula[1]])
    if formula[0] == "and":
        rows = [formula_ways(part, kinds) for part in formula[1]]
    else:
        rows = [formula_ways(formula[2], kinds)] * formula[1]
    found = {(0,) * len(kinds)}
    for row in rows:
        found = {plus(one, other) for one in found for other in row}
    return found


def named(formula):
    """The kinds of a formula, ascending."""
    if formula[0] == "kind":
        return (formula[1],)
    if formula[0] == "many":
        return named(formula[2])
    return tuple(sorted(sum([named(part) for part in formula[1]], ())))


def some_nets(seed, many, roads=6):
    """Roads, start and goal of so many small nets, most of them with a path, always the same ones."""
    chance = random.Random(seed)
    found = []
    while len(found) < many:
        places = chance.choice((2, 3, 4, 4, 4, 5))
        rows = []
        for name in "abcdefgh"[:chance.choice((chance.randint(1, roads), roads))]:
            one, other = chance.sample(range(places), 2)
            rows.append((name, one, other))
        start, goal = chance.sample(range(places), 2)
        found.append((tuple(rows), start, goal))
    return found


def all_normal_formulas(kinds, room):
    """All normal formulas with just these kinds in which the numbers multiply to at most `room`."""
    return sorted(normal_forms(tuple(kinds), room, "any"), key=repr)


def normal_forms(kinds, room, above):
    """All normal formulas with just these kinds that may stand in a part with the word `above`."""
    found = []
    if len(kinds) == 1:
        found.append(("kind", kinds[0]))
    for word in ("and", "or"):
        if len(kinds) > 1 and above != word and (above, word) != ("many", "and"):
            for parts in partitions(kinds):
                if len(parts) > 1:
                    rows = [normal_forms(part, room, word) for part in parts]
                    found.extend((word, row) for row in itertools.product(*rows))
    if above != "many":
        for number in range(2, room + 1):
            found.extend(("many", number, part) for part in normal_forms(kinds, room // number, "many"))
    return found


def partitions(items):
    """All partitions of ascending items into lots, in the order of their first items."""
    if not items:
        yield ()
        return
    first, rest = items[0], items[1:]
    for beside in subsets(rest):
        others = tuple(item for item in rest if item not in beside)
        for more in partitions(others):
            yield ((first, *beside), *more)
