"""[61] class Net."""

import unittest

from asmany.errors import InvalidBook
from asmany.nets import Net
from plain import STRANGE, Case, Stubborn


class Nets(Case):

    def test_attributes(self):
        roads = (("a", 0, 1), ("b", 19, 0))
        for net in (Net(roads, 3, 19), Net(start=3, goal=19, roads=roads)):
            self.assertEqual((net.roads, net.start, net.goal), (roads, 3, 19))
        Net(tuple((name, 0, 1) for name in "abcdefgh"), 0, 1)

    def test_wrong_roads_and_ends(self):
        nine = tuple((name, 0, 1) for name in "abcdefghi")
        for roads in ((), nine, [("a", 0, 1)], None, "a", {"a": 1}, Stubborn(), 7):
            self.fault(InvalidBook, -1, Net, roads, 0, 1)
        for start, goal in ((0, 0), (0, 20), (20, 0), (-1, 0), (True, 0), (0, False), ("a", 0), (1.0, 2)):
            self.fault(InvalidBook, -1, Net, (("a", 0, 1),), start, goal)
            self.fault(InvalidBook, -1, Net, (None,), start, goal)
        for value in STRANGE:
            self.fault(InvalidBook, -1, Net, (("a", 0, 1),), 0, value)
            self.fault(InvalidBook, -1, Net, (("a", 0, 1),), value, 0)

    def test_wrong_road(self):
        wrong = [
            ("a", 0), ("a", 0, 1, 2), ("A", 0, 1), (1, 0, 1), ("a", 0, 0), ("a", 0, 20), ("a", -1, 1),
            ("a", True, 0), ("a", 0, None), ["a", 0, 1], "a01", ("", 0, 1), ("aaaaaa", 0, 1),
        ]
        for road in wrong + list(STRANGE):
            self.fault(InvalidBook, 0, Net, (road,), 0, 1)
            self.fault(InvalidBook, 1, Net, (("a", 0, 1), road, road), 0, 1)
        for name in ("b", "a", "aa"):
            self.fault(InvalidBook, 1, Net, (("b", 0, 1), (name, 0, 1)), 0, 1)


if __name__ == "__main__":
    unittest.main()
