"""[64] The most that get through."""

import random
import unittest

from asmany.errors import InvalidPool
from asmany.flows import check_widths, least_cut, most_through, through_plan
from asmany.nets import Net
from plain import STRANGE, Case, Stubborn, lengths, within

BRIDGE = Net((("a", 0, 1), ("b", 0, 2), ("c", 1, 2), ("d", 1, 3), ("e", 2, 3)), 0, 3)
GREAT = 10 ** 18


def paths(net):
    """All paths, by a walk from place to place, as lots of names."""
    found = []

    def walk(place, passed, names):
        if place == net.goal:
            found.append(tuple(sorted(names)))
            return
        for name, one, other in net.roads:
            for here, there in ((one, other), (other, one)):
                if here == place and there not in passed:
                    walk(there, passed + [there], names + [name])

    walk(net.start, [net.start], [])
    return sorted(set(found))


def some_nets(seed, many):
    chance = random.Random(seed)
    for _ in range(many):
        places = chance.sample(range(20), chance.randint(2, 5))
        roads = tuple(
            (name, *chance.sample(places, 2)) for name in "abcdefgh"[:chance.randint(1, 7)]
        )
        yield Net(roads, *chance.sample(places, 2)), chance


class Flows(Case):

    def check_net(self, net, widths):
        """Check the plan and the cut, and so that no run of paths is longer."""
        most = most_through(net, widths)
        names = [road[0] for road in net.roads]
        plan, ways = through_plan(net, widths), paths(net)
        self.assertIs(most.__class__, int)
        self.assertEqual(plan, tuple(sorted(plan)))
        self.assertEqual(len(plan), len(set(path for path, _ in plan)))
        self.assertEqual(sum(number for _, number in plan), most)
        for path, number in plan:
            self.assertIn(path, ways)
            self.assertGreaterEqual(number, 1)
        for name, width in zip(names, widths):
            self.assertLessEqual(sum(number for path, number in plan if name in path), width)
        cut = least_cut(net, widths)
        self.assertEqual(cut, tuple(sorted(set(cut))))
        self.assertTrue(set(cut) <= set(names))
        self.assertTrue(all(set(path) & set(cut) for path in ways))
        self.assertEqual(sum(width for name, width in zip(names, widths) if name in cut), most)
        return most

    def test_bridge(self):
        self.assertEqual(self.check_net(BRIDGE, (1, 1, 1, 1, 1)), 2)
        self.assertEqual(self.check_net(BRIDGE, (1, 0, 1, 0, 1)), 1)
        self.assertEqual(self.check_net(BRIDGE, (2, 1, 1, 1, 2)), 3)
        self.assertEqual(self.check_net(BRIDGE, (0,) * 5), 0)
        self.assertEqual(self.check_net(BRIDGE, (GREAT,) * 5), 2 * GREAT)
        self.assertEqual(self.check_net(BRIDGE, (GREAT, 1, GREAT, 1, GREAT)), GREAT + 1)
        self.assertEqual(through_plan(net=BRIDGE, widths=(1, 0, 1, 0, 1)), ((("a", "c", "e"), 1),))
        self.assertEqual(through_plan(BRIDGE, (5, 7, 0, 5, 7)), ((("a", "d"), 5), (("b", "e"), 7)))

    def test_no_path(self):
        net = Net((("a", 0, 1), ("b", 2, 3)), 0, 3)
        self.assertEqual(self.check_net(net, (4, 4)), 0)
        self.assertEqual(through_plan(net, (4, 4)), ())
        net = Net((("a", 4, 5),), 0, 3)
        self.assertEqual((self.check_net(net, (1,)), least_cut(net, (1,))), (0, ()))

    def test_many(self):
        greatest = 0
        for net, chance in some_nets(1, 150):
            widths = tuple(chance.randint(0, 2) for _ in net.roads)
            most = self.check_net(net, widths)
            names = [road[0] for road in net.roads]
            ways = [tuple(int(name in path) for name in names) for path in paths(net)]
            self.assertEqual(most, lengths(ways, widths)[-1])
            greatest = max(greatest, most)
        self.assertGreater(greatest, 2)

    def test_great(self):
        for net, chance in some_nets(2, 300):
            self.check_net(net, tuple(chance.choice((0, 1, chance.randint(0, GREAT), GREAT)) for _ in net.roads))

    def test_way_back(self):
        # The first shortest path goes across; a better plan must take it back.
        roads = (("a", 0, 1), ("b", 1, 2), ("c", 2, 3), ("d", 1, 4), ("e", 4, 5), ("f", 5, 3), ("g", 0, 6), ("h", 6, 2))
        self.assertEqual(self.check_net(Net(roads, 0, 3), (1,) * 8), 2)

    def test_wrong_widths(self):
        self.assertIsNone(check_widths(BRIDGE, (0, 1, GREAT, 3, 4)))
        self.assertIsNone(check_widths(net=BRIDGE, value=(0,) * 5))
        for call in (check_widths, most_through, through_plan, least_cut):
            for value in STRANGE + ((1,) * 4, (1,) * 6, [1] * 5, "abcde", {0: 1}, 5):
                self.fault(InvalidPool, -1, call, BRIDGE, value)
            for item in STRANGE + (GREAT + 1, "1", Stubborn()):
                self.fault(InvalidPool, 0, call, BRIDGE, (item,) * 5)
                self.fault(InvalidPool, 3, call, BRIDGE, (0, 1, GREAT, item, item))
        self.fault(InvalidPool, 4, most_through, BRIDGE, widths=(0, 0, 0, 0, -1))

    def test_a_plan_is_a_run(self):
        widths = (3, 2, 5, 1, 4)
        names = [road[0] for road in BRIDGE.roads]
        used = [sum(number for path, number in through_plan(BRIDGE, widths) if name in path) for name in names]
        self.assertTrue(within(used, widths))


if __name__ == "__main__":
    unittest.main()
