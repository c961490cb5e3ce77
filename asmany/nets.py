"""Nets of roads between places."""

from asmany.basics import MOST_KINDS, is_name, is_number_to
from asmany.errors import InvalidBook

LAST_PLACE = 19


class Net:
    """Roads `(name, one, other)`, a place to start from, and a goal."""

    def __init__(self, roads, start, goal):
        if not isinstance(roads, tuple) or not 1 <= len(roads) <= MOST_KINDS:
            raise InvalidBook(-1)
        if not _are_ends(start, goal):
            raise InvalidBook(-1)
        for at, road in enumerate(roads):
            if not _is_road(road) or at > 0 and not roads[at - 1][0] < road[0]:
                raise InvalidBook(at)
        self.roads = roads
        self.start = start
        self.goal = goal


def _are_ends(one, other):
    """Whether two values are two different places."""
    return is_number_to(one, LAST_PLACE) and is_number_to(other, LAST_PLACE) and one != other


def _is_road(value):
    """Whether a value is a road."""
    if not isinstance(value, tuple) or len(value) != 3:
        return False
    return is_name(value[0]) and _are_ends(value[1], value[2])
