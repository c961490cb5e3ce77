"""Nets of roads between places."""

from asmany.basics import MOST_KINDS, is_name, is_number_to
from asmany.books import Book
from asmany.errors import InvalidBook, Refused
from asmany.formulas import normal

LAST_PLACE = 19


class Net:
    """Roads `(name, one, other)`, a place to start from, and a goal."""

    def __init__(self, roads, start, goal):
        if not isinstance(roads, tuple) or not 1 <= len(roads) <= MOST_KINDS:
            raise InvalidBook(-1)
        if not _are_ends(start, goal):
            raise InvalidBook(-1)
        for at, road in enumerate(roads):
            if not _is_road(road) or at > 0 and not roads[at - 1][0] < road[0]:
                raise InvalidBook(at)
        self.roads = roads
        self.start = start
        self.goal = goal


def all_paths(net):
    """The lot of all paths."""
    return tuple(sorted(_paths_from(net, net.start, [net.start])))


def used_roads(net):
    """The lot of the used roads."""
    return tuple(sorted(set([name for path in all_paths(net) for name in path])))


def net_book(net):
    """The book of the used roads, with a way for each path."""
    paths = _checked_paths(net)
    kinds = used_roads(net)
    ways = [tuple([1 if kind in path else 0 for kind in kinds]) for path in paths]
    return Book(kinds, tuple(sorted(ways)))


def net_formula(net):
    """The normal formula of the book of the net, None if there is none."""
    _checked_paths(net)
    used = used_roads(net)
    # Each road is a formula with two ends; those beside or behind one another become one.
    roads = [(("kind", name), one, other) for name, one, other in net.roads if name in used]
    while len(roads) > 1:
        joined = _joined_once(net, roads)
        if joined is None:
            return None
        roads = joined
    return normal(roads[0][0])


def _are_ends(one, other):
    """Whether two values are two different places."""
    return is_number_to(one, LAST_PLACE) and is_number_to(other, LAST_PLACE) and one != other


def _is_road(value):
    """Whether a value is a road."""
    if not isinstance(value, tuple) or len(value) != 3:
        return False
    return is_name(value[0]) and _are_ends(value[1], value[2])


def _paths_from(net, place, passed):
    """All ways from a place to the goal past none of the places passed, each as a sorted tuple."""
    if place == net.goal:
        return [()]
    paths = []
    for name, one, other in net.roads:
        if place in (one, other):
            further = other if place == one else one
            if further not in passed:
                rest = _paths_from(net, further, [*passed, further])
                paths.extend([tuple(sorted([name, *path])) for path in rest])
    return paths


def _checked_paths(net):
    """All paths; a net without one is refused."""
    paths = all_paths(net)
    if not paths:
        raise Refused("none")
    return paths


def _joined_once(net, roads):
    """The roads with two of them set beside or behind one another, None if no two can be."""
    for at, road in enumerate(roads):
        for other in roads[:at]:
            rest = [one for one in roads if one != road and one != other]
            common = [place for place in road[1:] if place in other[1:]]
            if len(common) == 2:
                return [*rest, (("or", (road[0], other[0])), road[1], road[2])]
            if len(common) == 1 and _is_passed(net, common[0], rest):
                ends = [place for place in (*road[1:], *other[1:]) if place != common[0]]
                return [*rest, (("and", (road[0], other[0])), ends[0], ends[1])]
    return None


def _is_passed(net, place, others):
    """Whether at a place there is nothing but the roads that are not among the others."""
    return place not in (net.start, net.goal) and all([place not in road[1:] for road in others])
