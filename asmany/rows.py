"""The lengths and the numbers of full runs from a pool."""

from asmany.basics import check_most, is_number
from asmany.books import least_ways
from asmany.errors import InvalidNumber, Refused
from asmany.packs import guarded, has_length, lengths_of, one_more, packed
from asmany.runs import check_pool, check_run, is_full
from asmany.stories import all_stories, story_pool

MOST_SPLIT_WAYS = 16


def span(book):
    """The greatest span of a way."""
    least = [min([way[k] for way in book.ways if way[k] > 0]) for k in range(len(book.kinds))]
    return max([sum([-(-x // y) for x, y in zip(way, least)]) for way in book.ways])


def run_lengths(book, pool, *, most=2000):
    """The lot of the lengths of all full runs."""
    check_pool(book, pool)
    check_most(most)
    table = _length_table(book, pool, most)
    return lengths_of(table[guarded(pool)])


def run_of_length(book, pool, length, *, most=2000):
    """The first full run with this length, None if there is none."""
    check_pool(book, pool)
    if not is_number(length):
        raise InvalidNumber("length")
    check_most(most)
    table = _length_table(book, pool, most)
    if not has_length(table[guarded(pool)], length):
        return None
    return _first_run(book, pool, length, table)


def shortest_run(book, pool, *, most=2000):
    """The first full run with the least length."""
    check_pool(book, pool)
    check_most(most)
    table = _length_table(book, pool, most)
    return _first_run(book, pool, lengths_of(table[guarded(pool)])[0], table)


def longest_run(book, pool, *, most=2000):
    """The first full run with the greatest length."""
    check_pool(book, pool)
    check_most(most)
    table = _length_table(book, pool, most)
    return _first_run(book, pool, lengths_of(table[guarded(pool)])[-1], table)


def count_runs(book, pool, *, most=2000):
    """The number of all full runs."""
    check_pool(book, pool)
    check_most(most)
    return _count_table(book, pool, most)[guarded(pool)]


def run_at(book, pool, number, *, most=2000):
    """The full run with this index."""
    check_pool(book, pool)
    if not is_number(number):
        raise InvalidNumber("number")
    check_most(most)
    table = _count_table(book, pool, most)
    rest = guarded(pool)
    if number >= table[rest]:
        raise InvalidNumber("number")
    ways, guard = _packed_book(book)
    run = []
    steps = _steps(ways, guard, rest)
    while steps:
        for way, rest in steps:
            if number < table[rest]:
                run.append(way)
                break
            number = number - table[rest]
        steps = _steps(ways, guard, rest)
    return tuple(run)


def place_of_run(book, pool, run, *, most=2000):
    """The index of a run among all full runs, None if it is not full."""
    check_run(book, pool, run)
    check_most(most)
    table = _count_table(book, pool, most)
    if not is_full(book, pool, run):
        return None
    ways, guard = _packed_book(book)
    place = 0
    rest = guarded(pool)
    for number in run:
        earlier = [other for way, other in _steps(ways, guard, rest) if way < number]
        place = place + sum([table[other] for other in earlier])
        rest = rest - ways[number]
    return place


def split_pools(book):
    """The least pools that have full runs of two or more lengths, ascending."""
    if len(book.ways) > MOST_SPLIT_WAYS:
        raise Refused("wide")
    return least_ways(tuple([story_pool(book, story) for story in all_stories(book)]))


def _packed_book(book):
    """The ways as integers, and the guards alone."""
    return [packed(way) for way in book.ways], guarded([0] * len(book.kinds))


def _steps(ways, guard, rest):
    """For each way that fits its number, and what it leaves."""
    others = [rest - way for way in ways]
    return [(number, other) for number, other in enumerate(others) if other & guard == guard]


def _pools_left(book, pool, most):
    """All pools that runs from a pool leave, ascending: each one behind what runs leave of it."""
    ways, guard = _packed_book(book)
    pools = [guarded(pool)]
    found = {pools[0]: True}
    # The numbers of a run may be sorted, so the ways are gone through just once.
    for way in ways:
        at = 0
        while at < len(pools):
            other = pools[at] - way
            at = at + 1
            if other & guard == guard and other not in found:
                if len(pools) == most:
                    raise Refused("wide")
                found[other] = True
                pools.append(other)
    return sorted(pools)


def _count_table(book, pool, most):
    """For each pool that runs leave the number of full runs from it."""
    ways, guard = _packed_book(book)
    table = {}
    for rest in _pools_left(book, pool, most):
        count = 0
        for way in ways:
            other = rest - way
            if other & guard == guard:
                count = count + table[other]
        table[rest] = count or 1
    return table


def _length_table(book, pool, most):
    """For each pool that runs leave the row of all lengths of full runs from it."""
    ways, guard = _packed_book(book)
    table = {}
    for rest in _pools_left(book, pool, most):
        rows = []
        for way in ways:
            other = rest - way
            if other & guard == guard:
                rows.append(table[other])
        table[rest] = one_more(rows) if rows else (0, 1)
    return table


def _first_run(book, pool, length, table):
    """The first full run with this length, which there is."""
    ways, guard = _packed_book(book)
    run = []
    rest = guarded(pool)
    for others in reversed(range(length)):
        steps = _steps(ways, guard, rest)
        number, rest = [step for step in steps if has_length(table[step[1]], others)][0]
        run.append(number)
    return tuple(run)
