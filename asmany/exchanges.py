"""Exchanges of ways, and stories found by them."""

from asmany.basics import plus, within
from asmany.errors import InvalidNumber, Refused
from asmany.runs import check_run, is_full, is_way_number
from asmany.stories import is_story


def partner(book, way, one, other):
    """The number of the way that is the sum of two ways less the first one, or None."""
    _check_exchange(book, way, one, other)
    return _number_of(book, _sum_without(book, way, one, other))


def unpaired_story(book, way, one, other):
    """None if there is a partner, otherwise a story whose pool is within the sum."""
    _check_exchange(book, way, one, other)
    rest = _sum_without(book, way, one, other)
    if _number_of(book, rest) is not None:
        return None
    number = _first_fitting(book, rest)
    if number is None:
        return way, one, other
    if is_story(book, (one, way, number)):
        return one, way, number
    return other, way, number


def story_between(book, pool, run, other):
    """A story within the pool from which two full runs have different lengths."""
    check_run(book, pool, run)
    check_run(book, pool, other)
    if not is_full(book, pool, run) or not is_full(book, pool, other):
        raise Refused("open")
    if len(run) == len(other):
        raise Refused("alike")
    rows = [_counted(book, run), _counted(book, other)]
    while True:
        pool, rows = _without_common(book, pool, rows)
        shorter, longer = sorted(rows, key=sum)
        t, u = _first_two(longer)
        s, r = _first_two(shorter)
        if r is None:
            return s, t, u
        way = _first_fitting(book, _sum_without(book, t, s, r))
        if way is None:
            return t, s, r
        beside = _number_of(book, _sum_without(book, way, s, r))
        if beside is None:
            return unpaired_story(book, way, s, r)
        # Of these three full runs the first two share a way, the last two as well.
        third = _full_counts(book, pool, (t, way), longer)
        if sum(third) != sum(longer):
            rows = [longer, third]
        else:
            rows = [_exchanged(shorter, (s, r), (way, beside)), third]


def _check_exchange(book, way, one, other):
    """Raise an error unless the three are ways, the first within the others' sum."""
    if not is_way_number(book, way):
        raise InvalidNumber("way")
    if not is_way_number(book, one):
        raise InvalidNumber("one")
    if not is_way_number(book, other):
        raise InvalidNumber("other")
    if not within(book.ways[way], plus(book.ways[one], book.ways[other])):
        raise Refused("apart")


def _sum_without(book, way, one, other):
    """What the first way leaves of the sum of two; 0 where it has more."""
    both = plus(book.ways[one], book.ways[other])
    return tuple([max(x - y, 0) for x, y in zip(both, book.ways[way])])


def _number_of(book, amounts):
    """The number of the way with these amounts, or None."""
    if amounts in book.ways:
        return book.ways.index(amounts)
    return None


def _first_fitting(book, amounts):
    """The number of the first way within the amounts, or None."""
    for number, way in enumerate(book.ways):
        if within(way, amounts):
            return number
    return None


def _counted(book, run):
    """For each way how often a run takes it."""
    counts = [0] * len(book.ways)
    for number in run:
        counts[number] = counts[number] + 1
    return counts


def _first_two(counts):
    """The first two numbers of the run in ascending order; None if it has no second one."""
    numbers = []
    for number, count in enumerate(counts):
        numbers.extend([number] * min(count, 2))
    numbers.append(None)
    return numbers[0], numbers[1]


def _less(pool, way, count):
    """What is left when a way is taken so often."""
    return tuple([x - count * y for x, y in zip(pool, way)])


def _without_common(book, pool, rows):
    """What two runs have in common, taken from the pool and from both."""
    common = [min(x, y) for x, y in zip(rows[0], rows[1])]
    for number, count in enumerate(common):
        pool = _less(pool, book.ways[number], count)
    return pool, [[x - y for x, y in zip(counts, common)] for counts in rows]


def _exchanged(counts, old, new):
    """The counts with two new ways in the place of two old ones."""
    counts = list(counts)
    for number in old:
        counts[number] = counts[number] - 1
    for number in new:
        counts[number] = counts[number] + 1
    return counts


def _full_counts(book, pool, begun, wanted):
    """A full run that begins with two ways, then takes what it can of a wanted run."""
    counts = [0] * len(book.ways)
    for number in begun:
        counts[number] = counts[number] + 1
        pool = _less(pool, book.ways[number], 1)
    for limits in (wanted, None):
        for number, way in enumerate(book.ways):
            count = min([x // y for x, y in zip(pool, way) if y > 0])
            if limits is not None:
                count = min(count, limits[number])
            counts[number] = counts[number] + count
            pool = _less(pool, way, count)
    return counts
