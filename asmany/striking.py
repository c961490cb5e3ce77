"""The fewest ways to strike so that the other ways have no story."""

from itertools import combinations

from asmany.basics import is_ascending, minus, within
from asmany.errors import Refused
from asmany.runs import is_way_number
from asmany.stories import are_three_ways, story_pool

MOST_STRUCK_WAYS = 10


class Strikes:
    """A lot of ways to strike, and a tree that shows that no fewer are enough."""

    def __init__(self, lot, tree):
        self.lot = lot
        self.tree = tree


def fewest_strikes(book):
    """Some Strikes that holds."""
    lot = all_fewest_strikes(book)[0]
    if not lot:
        return Strikes((), None)
    return Strikes(lot, _tree(_all_triples(book), _all_ways(book), len(lot) - 1))


def all_fewest_strikes(book):
    """All lots with the fewest ways that are enough, ascending."""
    _check_ways(book)
    triples = _all_triples(book)
    count = 0
    lots = _enough_lots(book, triples, count)
    while not lots:
        count = count + 1
        lots = _enough_lots(book, triples, count)
    return tuple(lots)


def is_strikes(book, value):
    """Whether any value is a Strikes that holds."""
    _check_ways(book)
    if not isinstance(value, Strikes) or not _is_lot_of_ways(book, value.lot):
        return False
    if _first_story(_all_triples(book), _all_ways(book) - _mask_of_lot(value.lot)) is not None:
        return False
    if not value.lot:
        return value.tree is None
    return _is_tree(book, _all_ways(book), len(value.lot) - 1, value.tree)


def _check_ways(book):
    """Refuse a book with too many ways."""
    if len(book.ways) > MOST_STRUCK_WAYS:
        raise Refused("wide")


def _all_ways(book):
    """The mask of all ways, one bit for each."""
    return (1 << len(book.ways)) - 1


def _mask_of_lot(lot):
    """The mask of some ways, each counted once."""
    return sum([1 << number for number in sorted(set(lot))])


def _is_lot_of_ways(book, value):
    """Whether any value is a lot of numbers of ways."""
    if not isinstance(value, tuple) or not all([is_way_number(book, number) for number in value]):
        return False
    return is_ascending(value)


def _enough_lots(book, triples, count):
    """All lots of so many ways that are enough, ascending."""
    return [lot for lot in combinations(range(len(book.ways)), count)
            if _first_story(triples, _all_ways(book) - _mask_of_lot(lot)) is None]


def _preventing(book, triple):
    """The ways that fit what the first of three ways leaves of their pool."""
    rest = minus(story_pool(book, triple), book.ways[triple[0]])
    return _mask_of_lot([number for number, way in enumerate(book.ways) if within(way, rest)])


def _all_triples(book):
    """All (s, t, u) with t <= u: the mask of their ways, of those that prevent a story, and the three."""
    size = len(book.ways)
    triples = [(s, t, u) for s in range(size) for t in range(size) for u in range(t, size)]
    return [(_mask_of_lot(triple), _preventing(book, triple), triple) for triple in triples]


def _first_story(triples, rest):
    """The first story of the ways that are left, for which only these count; None without one."""
    for mask, preventing, triple in triples:
        if mask & rest == mask and preventing & rest == 0:
            return triple
    return None


def _tree(triples, rest, height):
    """A tree of a height behind the ways that are not left."""
    story = _first_story(triples, rest)
    if height == 0:
        return story, ()
    ways = sorted(set(story))
    return story, tuple([_tree(triples, rest - (1 << number), height - 1) for number in ways])


def _is_tree(book, rest, height, value):
    """Whether any value is a tree of a height behind the ways that are not left."""
    if not isinstance(value, tuple) or len(value) != 2 or not isinstance(value[1], tuple):
        return False
    story, trees = value
    if not are_three_ways(book, story) or _mask_of_lot(story) & ~rest or _preventing(book, story) & rest:
        return False
    if height == 0:
        return len(trees) == 0
    ways = sorted(set(story))
    if len(trees) != len(ways):
        return False
    return all([_is_tree(book, rest - (1 << number), height - 1, tree) for number, tree in zip(ways, trees)])
