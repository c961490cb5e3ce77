"""Books of ways, least ways, and longer ways that do harm or none."""

from asmany.basics import MOST_AMOUNT, MOST_WAYS, are_kinds, are_numbers, greater, has_within
from asmany.basics import items_of_mask, mask_of, plus, within
from asmany.errors import InvalidBook, Refused


class Book:
    """Kinds, and the ways in which a piece can be made of them."""

    def __init__(self, kinds, ways):
        if not are_kinds(kinds) or not isinstance(ways, tuple):
            raise InvalidBook(-1)
        for at, way in enumerate(ways):
            if at == MOST_WAYS or not _is_next_way(ways, at, len(kinds)):
                raise InvalidBook(at)
        if not all(_are_used(ways, len(kinds))):
            raise InvalidBook(len(ways))
        self.kinds = kinds
        self.ways = ways

    def __eq__(self, other):
        return isinstance(other, Book) and self.kinds == other.kinds and self.ways == other.ways


def _is_next_way(ways, at, count):
    """Whether the item of this index may stand behind the items before it."""
    way = ways[at]
    if not are_numbers(way, count) or max(way) > MOST_AMOUNT or max(way) == 0:
        return False
    if at > 0 and not ways[at - 1] < way:
        return False
    return not has_within(ways[:at], way)


def _are_used(ways, count):
    """For each index of a kind whether some way has an amount of it."""
    return [any([way[k] > 0 for way in ways]) for k in range(count)]


def least_ways(ways):
    """The lot of those tuples that no other one is within."""
    return _least_to(ways, len(ways))


def _least_to(ways, most):
    """The lot of the least ones; just the first most + 1 of more than `most`."""
    least = []
    # A tuple within another one comes before it in this order.
    for way in sorted(set(ways)):
        if len(least) > most:
            break
        if not has_within(least, way):
            least.append(way)
    return tuple(least)


def tidy_book(kinds, ways):
    """The book of the least ones, on the kinds that these use."""
    least = _least_to(ways, MOST_WAYS)
    if len(least) > MOST_WAYS:
        raise Refused("wide")
    mask = 0
    for way in least:
        mask = mask | mask_of(way)
    rows = [items_of_mask(way, mask) for way in least]
    return Book(items_of_mask(kinds, mask), tuple(sorted(rows)))


def is_harmless(ways):
    """Whether none has more than a least one within it, of a kind that counts."""
    return harm(ways) is None


def harm(ways):
    """None for harmless ways, otherwise a pool with runs of length 1 and more."""
    least = least_ways(ways)
    for way in ways:
        for part in least:
            if within(part, way):
                pool = _pool_of_harm(way, part, least)
                if pool is not None:
                    return pool
    return None


def _pool_of_harm(way, part, least):
    """A pool in which `way` alone does harm, or `part` and one more least way."""
    for k in range(len(way)):
        if way[k] > part[k]:
            for other in least:
                if other[k] > 0:
                    # `way` leaves less than `other`: nothing least is within that.
                    return greater(way, plus(part, other))
    return None
