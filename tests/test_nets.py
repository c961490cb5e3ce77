"""[61], [62]: nets, their books and formulas."""

import itertools
import random
import unittest

from asmany.books import Book
from asmany.errors import InvalidBook, Refused
from asmany.formulas import check_formula, normal
from asmany.nets import Net, all_paths, net_book, net_formula, used_roads
from plain import STRANGE, Case, Stubborn, formula_ways, named, some_nets, stories

BRIDGE = Net((("a", 0, 1), ("b", 0, 2), ("c", 1, 2), ("d", 1, 3), ("e", 2, 3)), 0, 3)


def plain_paths(net):
    """All paths, by the definition: lots of roads that can be gone in some sequence."""
    found = set()
    for size in range(1, min(len(net.roads), 5) + 1):
        for row in itertools.permutations(net.roads, size):
            places = [net.start]
            for _, one, other in row:
                if places[-1] not in (one, other):
                    break
                places.append(other if places[-1] == one else one)
            else:
                if places[-1] == net.goal and len(set(places)) == len(places):
                    found.add(tuple(sorted(road[0] for road in row)))
    return tuple(sorted(found))


class Nets(Case):

    def test_attributes(self):
        roads = (("a", 0, 1), ("b", 19, 0))
        for net in (Net(roads, 3, 19), Net(start=3, goal=19, roads=roads)):
            self.assertEqual((net.roads, net.start, net.goal), (roads, 3, 19))
        Net(tuple((name, 0, 1) for name in "abcdefgh"), 0, 1)

    def test_wrong_roads_and_ends(self):
        nine = tuple((name, 0, 1) for name in "abcdefghi")
        for roads in ((), nine, [("a", 0, 1)], None, "a", {"a": 1}, Stubborn(), 7):
            self.fault(InvalidBook, -1, Net, roads, 0, 1)
        for start, goal in ((0, 0), (0, 20), (20, 0), (-1, 0), (True, 0), (0, False), ("a", 0), (1.0, 2)):
            self.fault(InvalidBook, -1, Net, (("a", 0, 1),), start, goal)
            self.fault(InvalidBook, -1, Net, (None,), start, goal)
        for value in STRANGE:
            self.fault(InvalidBook, -1, Net, (("a", 0, 1),), 0, value)
            self.fault(InvalidBook, -1, Net, (("a", 0, 1),), value, 0)

    def test_wrong_road(self):
        wrong = [
            ("a", 0), ("a", 0, 1, 2), ("A", 0, 1), (1, 0, 1), ("a", 0, 0), ("a", 0, 20), ("a", -1, 1),
            ("a", True, 0), ("a", 0, None), ["a", 0, 1], "a01", ("", 0, 1), ("aaaaaa", 0, 1),
        ]
        for road in wrong + list(STRANGE):
            self.fault(InvalidBook, 0, Net, (road,), 0, 1)
            self.fault(InvalidBook, 1, Net, (("a", 0, 1), road, road), 0, 1)
        for name in ("b", "a", "aa"):
            self.fault(InvalidBook, 1, Net, (("b", 0, 1), (name, 0, 1)), 0, 1)


class Paths(Case):

    def test_examples(self):
        self.assertEqual(all_paths(net=BRIDGE), (("a", "c", "e"), ("a", "d"), ("b", "c", "d"), ("b", "e")))
        self.assertEqual(used_roads(net=BRIDGE), tuple("abcde"))
        self.assertEqual(net_book(net=BRIDGE), Book(tuple("abcde"), (
            (0, 1, 0, 0, 1), (0, 1, 1, 1, 0), (1, 0, 0, 1, 0), (1, 0, 1, 0, 1))))
        self.assertIsNone(net_formula(net=BRIDGE))
        mixed = Net((("a", 0, 1), ("b", 2, 1), ("c", 2, 0), ("d", 4, 0)), 0, 2)
        self.assertEqual(net_formula(mixed), ("or", (("and", (("kind", "a"), ("kind", "b"))), ("kind", "c"))))
        self.assertEqual(used_roads(mixed), ("a", "b", "c"))
        self.assertEqual(net_formula(Net((("z", 5, 3), ), 3, 5)), ("kind", "z"))
        eight = tuple("abcdefgh")
        beside = Net(tuple((name, 0, 1) for name in eight), 1, 0)
        self.assertEqual(net_formula(beside), ("or", tuple(("kind", name) for name in eight)))
        behind = Net(tuple((name, 19 - k, 18 - k) for k, name in enumerate(eight)), 19, 11)
        self.assertEqual(net_formula(behind), ("and", tuple(("kind", name) for name in eight)))

    def test_no_path(self):
        for net in (Net((("a", 0, 1),), 0, 2), Net((("a", 0, 1), ("b", 2, 3)), 0, 3), Net((("a", 4, 5),), 0, 1)):
            self.assertEqual(all_paths(net), ())
            self.assertEqual(used_roads(net), ())
            self.fault(Refused, "none", net_book, net)
            self.fault(Refused, "none", net_formula, net)

    def test_many(self):
        told = {"none": 0, "even": 0, "uneven": 0, "unused": 0}
        for rows in some_nets(610, 400, roads=7):
            net = Net(*rows)
            paths = plain_paths(net)
            self.assertEqual(all_paths(net), paths)
            kinds = tuple(sorted(set(sum(paths, ()))))
            self.assertEqual(used_roads(net), kinds)
            if not paths:
                self.fault(Refused, "none", net_book, net)
                self.fault(Refused, "none", net_formula, net)
                told["none"] += 1
                continue
            ways = tuple(sorted(tuple(int(kind in path) for kind in kinds) for path in paths))
            self.assertEqual(net_book(net), Book(kinds, ways))
            told["unused"] += len(kinds) < len(net.roads)
            told[self.check_formula(net, kinds, ways)] += 1
        self.assertGreater(min(told.values()), 15, told)

    def check_formula(self, net, kinds, ways):
        """A net has a formula exactly if its book is even."""
        found = net_formula(net)
        if stories(ways):
            self.assertIsNone(found)
            return "uneven"
        self.assertIsNone(check_formula(found))
        self.assertEqual(normal(found), found)
        self.assertEqual(named(found), kinds)
        self.assertEqual(tuple(sorted(formula_ways(found, kinds))), ways)
        return "even"

    def test_eight_roads(self):
        chance = random.Random(8)
        for rows in some_nets(611, 60, roads=8):
            net = Net(*rows)
            paths = all_paths(net)
            self.assertEqual(len(set(paths)), len(paths))
            if paths:
                self.check_formula(net, used_roads(net), net_book(net).ways)
        ladder = Net((("a", 0, 1), ("b", 0, 1), ("c", 1, 2), ("d", 1, 2), ("e", 2, 3), ("f", 2, 3), ("g", 3, 4),
                      ("h", 3, 4)), 0, 4)
        self.assertEqual(len(all_paths(ladder)), 16)
        self.assertEqual(chance.choice(net_book(ladder).ways).count(1), 4)


if __name__ == "__main__":
    unittest.main()
