"""[63] Crossings."""

import itertools
import random
import unittest

from asmany.crossings import crossed_widths, crossing, is_crossing
from asmany.errors import Refused
from asmany.nets import Net, all_paths, net_book, net_formula, used_roads
from plain import STRANGE, Case, Stubborn, lengths, some_nets

ROADS = (("a", 0, 1), ("b", 0, 2), ("c", 1, 2), ("d", 1, 3), ("e", 2, 3))
BRIDGE = Net(ROADS, 0, 3)
FOUND = ((0, 1, 2, 3), ((), ("a",), ("b",), ("c",), ("d",), ("e",), ()))
LONG = Net(ROADS + (("f", 3, 4), ("g", 0, 5), ("h", 4, 6)), 5, 4)
LONG_FOUND = ((0, 1, 2, 3), (("g",), ("a",), ("b",), ("c",), ("d",), ("e",), ("f",)))


def places_of(net, lot, start, end):
    """The places of the way from one place to another by just these roads, in some sequence; or None."""
    for row in itertools.permutations([road for road in net.roads if road[0] in lot]):
        places = [start]
        for _, one, other in row:
            if places[-1] not in (one, other):
                break
            places.append(other if places[-1] == one else one)
        else:
            if places[-1] == end and len(set(places)) == len(places):
                return places
    return None


def is_plain_crossing(net, value):
    """Whether a value of the right form is a crossing, by the definition."""
    (p, a, b, q), parts = value
    ends = ((net.start, p), (p, a), (p, b), (a, b), (a, q), (b, q), (q, net.goal))
    if len({p, a, b, q}) < 4 or {a, b} & {net.start, net.goal} or p == net.goal or q == net.start:
        return False
    rows = [places_of(net, lot, *two) for lot, two in zip(parts, ends)]
    if None in rows:
        return False
    for row, other in itertools.permutations(rows, 2):
        if set(row[1:-1]) & set(other):
            return False
    return all((one == other) == (not lot) for lot, (one, other) in zip(parts, ends))


class Crossings(Case):

    def test_examples(self):
        for net, found in ((BRIDGE, FOUND), (LONG, LONG_FOUND)):
            self.assertIs(is_crossing(net=net, value=found), True)
            self.assertTrue(is_plain_crossing(net, crossing(net)))
        (p, a, b, q), parts = FOUND
        other = ((p, b, a, q), ((), ("b",), ("a",), ("c",), ("e",), ("d",), ()))
        self.assertIs(is_crossing(BRIDGE, other), True)
        self.assertIn(crossing(net=BRIDGE), (FOUND, other))
        self.assertEqual(crossed_widths(net=BRIDGE), (1,) * 5)
        self.assertEqual(crossed_widths(LONG), (1, 1, 1, 1, 1, 2, 2))
        self.assertEqual(used_roads(LONG), tuple("abcdefg"))
        back = Net(ROADS, 3, 0)
        self.assertTrue(is_plain_crossing(back, crossing(back)))
        mixed = Net((("a", 0, 1), ("b", 2, 1), ("c", 2, 0), ("d", 4, 0)), 0, 2)
        self.assertIsNone(crossing(mixed))
        self.assertIsNone(crossed_widths(mixed))
        self.assertIsNone(crossing(Net(ROADS, 0, 1)))

    def test_no_path(self):
        for net in (Net(ROADS, 0, 7), Net(ROADS, 8, 9), Net((("a", 0, 1),), 0, 2)):
            self.assertIsNone(crossing(net))
            self.assertIs(is_crossing(net, FOUND), False)
            self.fault(Refused, "none", crossed_widths, net)

    def test_widths_one_do_not_show_it(self):
        """Widths 0 and 1 alone need not show it: one road that all must pass."""
        net = Net(ROADS + (("f", 3, 4),), 0, 4)
        ways = net_book(net).ways
        for pool in itertools.product(range(2), repeat=6):
            self.assertEqual(len(lengths(ways, pool)), 1)
        self.assertEqual(lengths(ways, crossed_widths(net)), (1, 2))

    def check(self, net):
        found = crossing(net)
        if not all_paths(net):
            self.assertIsNone(found)
            self.fault(Refused, "none", crossed_widths, net)
            return "none"
        # A net with a path has a crossing exactly if it has no formula.
        self.assertIs(found is None, net_formula(net) is not None)
        widths = crossed_widths(net)
        if found is None:
            self.assertIsNone(widths)
            return "even"
        self.assertTrue(is_plain_crossing(net, found))
        self.assertTrue(all(lot == tuple(sorted(lot)) for lot in found[1]))
        self.assertIs(is_crossing(net, found), True)
        self.assertEqual(len(widths), len(used_roads(net)))
        self.assertLessEqual(max(widths), 2)
        self.assertEqual(lengths(net_book(net).ways, widths), (1, 2))
        return "crossed"

    def test_many(self):
        told = {"none": 0, "even": 0, "crossed": 0}
        for rows in some_nets(630, 500, roads=8):
            net = Net(*rows)
            told[self.check(net)] += 1
        chance = random.Random(63)
        for _ in range(300):
            told[self.check(self.a_bridge(chance))] += 1
        self.assertGreater(min(told.values()), 30, told)

    def a_bridge(self, chance):
        """A net with a bridge, some of whose roads go past further places, and some roads more."""
        places = chance.sample(range(20), 10)
        rows = [(0, 1), (0, 2), (1, 2), (1, 3), (2, 3)]
        ends = [0, 3]
        fresh = 4
        while len(rows) < 8:
            at = chance.randrange(8)
            if at < len(rows):
                one, other = rows.pop(at)
                rows += [(one, fresh), (fresh, other)]
                fresh += 1
            elif at == 7:
                rows.append(tuple(chance.sample(range(fresh), 2)))
            else:
                side = chance.randrange(2)
                rows.append((ends[side], fresh))
                ends[side] = fresh
                fresh += 1
        names = chance.sample("abcdefgh", 8)
        roads = [(name, *[places[k] for k in chance.sample(row, 2)]) for name, row in zip(names, rows)]
        return Net(tuple(sorted(roads)), places[ends[0]], places[ends[1]])

    def test_which_are_crossings(self):
        """All values of the right form for small nets, and changes of those that are found."""
        chance = random.Random(64)
        told = [0, 0]
        for four in itertools.permutations(range(4)):
            for inner in itertools.permutations("abcde"):
                value = (four, ((), *[(name,) for name in inner], ()))
                self.assertIs(is_crossing(BRIDGE, value), is_plain_crossing(BRIDGE, value))
        for _ in range(400):
            net = self.a_bridge(chance)
            (p, a, b, q), parts = crossing(net)
            four, parts = [p, a, b, q], [list(lot) for lot in parts]
            for _ in range(chance.randint(0, 2)):
                if chance.randint(0, 1):
                    four[chance.randrange(4)] = chance.choice(net.roads)[1]
                else:
                    one, other = chance.sample(parts, 2)
                    if one:
                        other.append(one.pop())
            value = tuple(four), tuple(tuple(sorted(lot)) for lot in parts)
            right = is_plain_crossing(net, value)
            told[right] += 1
            self.assertIs(is_crossing(net, value), right)
        self.assertGreater(min(told), 50)

    def test_common_places(self):
        """No place inside of one part is a place of another one."""
        net = Net((("a", 0, 4), ("b", 4, 1), ("c", 0, 2), ("d", 1, 2), ("e", 1, 3), ("f", 2, 4), ("g", 4, 3)), 0, 3)
        value = ((0, 1, 2, 3), ((), ("a", "b"), ("c",), ("d",), ("e",), ("f", "g"), ()))
        self.assertFalse(is_plain_crossing(net, value))
        self.assertIs(is_crossing(net, value), False)
        start = Net((("a", 5, 0), ("b", 0, 5), ("c", 5, 1), ("d", 0, 2), ("e", 1, 2), ("f", 1, 3), ("g", 2, 3)), 5, 3)
        value = ((0, 1, 2, 3), (("a",), ("b", "c"), ("d",), ("e",), ("f",), ("g",), ()))
        self.assertIs(is_crossing(start, value), False)
        self.assertIs(is_crossing(start, ((0, 1, 2, 3), (("a",), ("c",)) + value[1][2:])), False)
        branch = Net((("a", 0, 2), ("b", 2, 1), ("c", 0, 2), ("d", 1, 2), ("e", 1, 3), ("f", 2, 3)), 0, 3)
        value = ((0, 1, 2, 3), ((), ("a", "b"), ("c",), ("d",), ("e",), ("f",), ()))
        self.assertIs(is_crossing(branch, value), False)

    def test_equal_places(self):
        """Four places that are not different, with ways between them all the same."""
        twice = Net((("a", 0, 1), ("b", 0, 1), ("c", 1, 2), ("d", 1, 2)), 0, 2)
        self.assertIs(is_crossing(twice, ((0, 1, 1, 2), ((), ("a",), ("b",), (), ("c",), ("d",), ()))), False)
        back = Net((("a", 1, 2), ("b", 1, 3), ("c", 2, 3), ("d", 2, 1), ("e", 3, 1), ("s", 0, 1), ("t", 1, 4)), 0, 4)
        self.assertIs(is_crossing(back, ((1, 2, 3, 1), (("s",), ("a",), ("b",), ("c",), ("d",), ("e",), ("t",)))), False)

    def test_branches_at_the_ends(self):
        """But for p the start and q the goal, none of the four is one of these."""
        roads = (("a", 0, 1), ("b", 0, 2), ("c", 1, 2), ("d", 1, 3), ("e", 2, 3))
        parts = (("a",), ("b",), ("c",), ("d",), ("e",))
        for start, first in ((1, ("x", 1, 0)), (2, ("x", 0, 2))):
            self.assertIs(is_crossing(Net((*roads, first), start, 3), ((0, 1, 2, 3), (("x",), *parts, ()))), False)
        for goal, last in ((1, ("x", 1, 3)), (2, ("x", 3, 2))):
            self.assertIs(is_crossing(Net((*roads, last), 0, goal), ((0, 1, 2, 3), ((), *parts, ("x",)))), False)
        both = Net((*roads, ("x", 3, 0), ("y", 0, 3)), 3, 0)
        self.assertIs(is_crossing(both, ((0, 1, 2, 3), (("x",), *parts, ("y",)))), False)
        self.assertIs(is_crossing(both, ((3, 1, 2, 0), ((), ("d",), ("e",), ("c",), ("a",), ("b",), ()))), True)
        goal = Net((*roads, ("x", 3, 0)), 4, 0)
        self.assertIs(is_crossing(goal, ((0, 1, 2, 3), ((), *parts, ("x",)))), False)

    def test_doubled_roads(self):
        """Four places with three roads each that are no crossing."""
        net = Net((("a", 0, 1), ("b", 0, 1), ("c", 1, 2), ("d", 2, 3), ("e", 2, 3)), 0, 3)
        self.assertIsNone(crossing(net))
        self.assertIsNone(crossed_widths(net))
        beside = Net((*ROADS, ("x", 7, 8), ("y", 7, 8)), 0, 3)
        self.assertTrue(is_plain_crossing(beside, crossing(beside)))

    def test_wrong_values(self):
        four, parts = FOUND
        wrong = STRANGE + (
            (four,), (four, parts, ()), [four, parts], (list(four), parts), (four, list(parts)), (four[:3], parts),
            (four + (4,), parts), (four, parts[:6]), (four, parts + ((),)), ((0, 1, 1, 3), parts), ((0, 1, True, 3), parts),
            ((False, 1, 2, 3), parts), ((0, 1, 2, 3.0), parts), ((0, 1, 2, "3"), parts), ((0, 1, 2, None), parts),
            ((0, 1, 2, 20), parts), ((0, 1, 2, -1), parts), ((0, 2, 1, 3), parts), ((3, 1, 2, 0), parts),
            (four, (("a",),) + parts[1:]), (four, ((),) + parts[:6]), (four, ((), ("b",), ("a",)) + parts[3:]),
            (four, ((), ["a"]) + parts[2:]), (four, ((), "a") + parts[2:]), (four, ((), ("z",)) + parts[2:]),
            (four, ((), ("a", "a")) + parts[2:]), (four, ((), ("a", "c"), ("b",), ()) + parts[4:]),
            (four, ((), (None,)) + parts[2:]), (four, None), (None, parts), ((Stubborn(),) * 4, parts), (four, Stubborn()),
            (four, (Stubborn(),) * 7), (four, ((Stubborn(),),) * 7), {four: parts}, (four, ({"a": 1},) * 7),
        )
        for value in wrong:
            self.assertIs(is_crossing(BRIDGE, value), False)
        self.assertIs(is_crossing(LONG, ((0, 1, 2, 3), LONG_FOUND[1][:6] + (("f", "h"),))), False)
        self.assertIs(is_crossing(LONG, FOUND), False)


if __name__ == "__main__":
    unittest.main()
