"""Crossings of nets."""

from asmany.basics import is_lot_of, is_number_to
from asmany.nets import LAST_PLACE, net_book

PARTS = 7


def crossing(net):
    """Some crossing, None if there is none."""
    for lot in range(1 << len(net.roads)):
        found = _crossing_of_all(net, [road for at, road in enumerate(net.roads) if lot >> at & 1])
        if found is not None:
            return found
    return None


def is_crossing(net, value):
    """Whether any value is a crossing."""
    if not isinstance(value, tuple) or len(value) != 2 or not _are_branches(net, value[0]):
        return False
    if not _are_parts(net, value[1]):
        return False
    ends = sorted(set([net.start, net.goal, *value[0]]))
    inside = []
    for lot, (one, other) in zip(value[1], _ends_of_parts(net, value[0])):
        passed = _places_inside(net, lot, one, other)
        if passed is None:
            return False
        inside.extend(passed)
    return len(set([*inside, *ends])) == len(inside) + len(ends)


def crossed_widths(net):
    """Some pool of the book of the net with full runs of the lengths 1 and 2, None without one."""
    kinds = net_book(net).kinds
    found = crossing(net)
    if found is None:
        return None
    widths = {kind: 0 for kind in kinds}
    for at, lot in enumerate(found[1]):
        for name in lot:
            widths[name] = 2 if at in (0, PARTS - 1) else 1
    return tuple([widths[kind] for kind in kinds])


def _are_branches(net, value):
    """Whether any value is a tuple of four places that may be those of a crossing."""
    if not isinstance(value, tuple) or len(value) != 4:
        return False
    if not all([is_number_to(place, LAST_PLACE) for place in value]) or len(set(value)) < 4:
        return False
    p, a, b, q = value
    return net.start not in (a, b, q) and net.goal not in (p, a, b)


def _are_parts(net, value):
    """Whether any value is a tuple of seven lots of roads."""
    if not isinstance(value, tuple) or len(value) != PARTS:
        return False
    names = [road[0] for road in net.roads]
    return all([is_lot_of(lot, names) for lot in value])


def _ends_of_parts(net, branches):
    """The ends of the seven parts."""
    p, a, b, q = branches
    return [(net.start, p), (p, a), (p, b), (a, b), (a, q), (b, q), (q, net.goal)]


def _places_inside(net, lot, one, other):
    """The places inside of the way by all roads of a lot from a place to another one, or None."""
    roads = [road for road in net.roads if road[0] in lot]
    passed = [one]
    while roads:
        place = passed[-1]
        here = [road for road in roads if place in road[1:]]
        if len(here) != 1:
            return None
        roads = [road for road in roads if road != here[0]]
        passed.append(_far_end(here[0], place))
    return passed[1:-1] if passed[-1] == other else None


def _far_end(road, place):
    """The other end of a road at a place."""
    return road[2] if road[1] == place else road[1]


def _crossing_of_all(net, roads):
    """A crossing by just these roads, None if they are none.

    With one more road from the start to the goal they must be a net in which four places have
    three roads, each two of them joined by a way past places with two roads.
    """
    around = [*roads, (None, net.start, net.goal)]
    places = sorted(set([place for road in around for place in road[1:]]))
    counts = {place: len([road for road in around if place in road[1:]]) for place in places}
    branches = [place for place in places if counts[place] > 2]
    if len(branches) != 4 or max(list(counts.values())) > 3 or min(list(counts.values())) < 2:
        return None
    ways = _ways_between(around, branches)
    if len(ways) < 12:
        return None
    (p, q), way = [item for item in ways.items() if (None, True) in item[1]][0]
    a, b = [place for place in branches if place not in (p, q)]
    at = way.index((None, True))
    parts = [way[:at], ways[(p, a)], ways[(p, b)], ways[(a, b)], ways[(a, q)], ways[(b, q)], way[at + 1:]]
    return (p, a, b, q), tuple([tuple(sorted([name for name, _ in part])) for part in parts])


def _ways_between(roads, branches):
    """For each two branches the way from the first to the second one that passes no other one.

    It is a list of the names of its roads, each with whether it is gone from its first end.
    """
    ways = {}
    for branch in branches:
        for road in roads:
            if branch in road[1:]:
                place = _far_end(road, branch)
                way = [(road[0], road[1] == branch)]
                last = road
                while place not in branches:
                    last = [other for other in roads if place in other[1:] and other != last][0]
                    way.append((last[0], last[1] == place))
                    place = _far_end(last, place)
                ways[(branch, place)] = way
    return ways
