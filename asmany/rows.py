"""The lengths and the numbers of full runs from a pool."""

from asmany.basics import is_number, is_number_to
from asmany.books import least_ways
from asmany.errors import InvalidNumber, Refused
from asmany.runs import check_pool, check_run, is_full
from asmany.stories import all_stories, story_pool

MOST_POOLS = 100000
MOST_SPLIT_WAYS = 16

# A pool is worked with as one integer: a field for each kind, the first one highest. The
# highest bit of each field is set as a guard, above all amounts: a way fits exactly if none
# of these bits is lost when it is subtracted. Python hashes an integer by its remainder by
# 2 ** 61 - 1: with fields of 61 bits all pools with one sum would fall together in a dict.
FIELD = 69
GUARD = 1 << 60


def span(book):
    """The greatest span of a way."""
    least = [min([way[k] for way in book.ways if way[k] > 0]) for k in range(len(book.kinds))]
    return max([sum([-(-x // y) for x, y in zip(way, least)]) for way in book.ways])


def run_lengths(book, pool, *, most=2000):
    """The lot of the lengths of all full runs."""
    check_pool(book, pool)
    _check_most(most)
    table = _length_table(book, pool, most)
    return _lengths(table[_guarded(pool)])


def run_of_length(book, pool, length, *, most=2000):
    """The first full run with this length, None if there is none."""
    check_pool(book, pool)
    if not is_number(length):
        raise InvalidNumber("length")
    _check_most(most)
    table = _length_table(book, pool, most)
    if not _has_length(table[_guarded(pool)], length):
        return None
    return _first_run(book, pool, length, table)


def shortest_run(book, pool, *, most=2000):
    """The first full run with the least length."""
    check_pool(book, pool)
    _check_most(most)
    table = _length_table(book, pool, most)
    return _first_run(book, pool, _lengths(table[_guarded(pool)])[0], table)


def longest_run(book, pool, *, most=2000):
    """The first full run with the greatest length."""
    check_pool(book, pool)
    _check_most(most)
    table = _length_table(book, pool, most)
    return _first_run(book, pool, _lengths(table[_guarded(pool)])[-1], table)


def count_runs(book, pool, *, most=2000):
    """The number of all full runs."""
    check_pool(book, pool)
    _check_most(most)
    return _count_table(book, pool, most)[_guarded(pool)]


def run_at(book, pool, number, *, most=2000):
    """The full run with this index."""
    check_pool(book, pool)
    if not is_number(number):
        raise InvalidNumber("number")
    _check_most(most)
    table = _count_table(book, pool, most)
    rest = _guarded(pool)
    if number >= table[rest]:
        raise InvalidNumber("number")
    ways, guard = _packed_book(book)
    run = []
    steps = _steps(ways, guard, rest)
    while steps:
        for way, rest in steps:
            if number < table[rest]:
                run.append(way)
                break
            number = number - table[rest]
        steps = _steps(ways, guard, rest)
    return tuple(run)


def place_of_run(book, pool, run, *, most=2000):
    """The index of a run among all full runs, None if it is not full."""
    check_run(book, pool, run)
    _check_most(most)
    table = _count_table(book, pool, most)
    if not is_full(book, pool, run):
        return None
    ways, guard = _packed_book(book)
    place = 0
    rest = _guarded(pool)
    for number in run:
        earlier = [other for way, other in _steps(ways, guard, rest) if way < number]
        place = place + sum([table[other] for other in earlier])
        rest = rest - ways[number]
    return place


def split_pools(book):
    """The least pools that have full runs of two or more lengths, ascending."""
    if len(book.ways) > MOST_SPLIT_WAYS:
        raise Refused("wide")
    return least_ways(tuple([story_pool(book, story) for story in all_stories(book)]))


def _check_most(most):
    """Raise InvalidNumber unless `most` is a number of pools that may be asked for."""
    if not is_number_to(most, MOST_POOLS) or most == 0:
        raise InvalidNumber("most")


def _packed(amounts):
    """The amounts as one integer."""
    packed = 0
    for amount in amounts:
        packed = packed << FIELD | amount
    return packed


def _guarded(pool):
    """The pool as one integer with all guards."""
    return _packed([GUARD | amount for amount in pool])


def _packed_book(book):
    """The ways as integers, and the guards alone."""
    return [_packed(way) for way in book.ways], _guarded([0] * len(book.kinds))


def _steps(ways, guard, rest):
    """For each way that fits its number, and what it leaves."""
    others = [rest - way for way in ways]
    return [(number, other) for number, other in enumerate(others) if other & guard == guard]


def _pools_left(book, pool, most):
    """All pools that runs from a pool leave, ascending: each one behind what runs leave of it."""
    ways, guard = _packed_book(book)
    pools = [_guarded(pool)]
    found = {pools[0]: True}
    # The numbers of a run may be sorted, so the ways are gone through just once.
    for way in ways:
        at = 0
        while at < len(pools):
            other = pools[at] - way
            at = at + 1
            if other & guard == guard and other not in found:
                if len(pools) == most:
                    raise Refused("wide")
                found[other] = True
                pools.append(other)
    return sorted(pools)


def _count_table(book, pool, most):
    """For each pool that runs leave the number of full runs from it."""
    ways, guard = _packed_book(book)
    table = {}
    for rest in _pools_left(book, pool, most):
        count = 0
        for way in ways:
            other = rest - way
            if other & guard == guard:
                count = count + table[other]
        table[rest] = count or 1
    return table


def _length_table(book, pool, most):
    """For each pool that runs leave the least length of a full run, and all lengths.

    These are the bits of an integer, that of the least length first: lengths may be great,
    while they differ by little.
    """
    ways, guard = _packed_book(book)
    table = {}
    for rest in _pools_left(book, pool, most):
        rows = []
        for way in ways:
            other = rest - way
            if other & guard == guard:
                rows.append(table[other])
        table[rest] = _one_more(rows) if rows else (0, 1)
    return table


def _one_more(rows):
    """All lengths of the rows together, each one greater by 1."""
    least = min([row[0] for row in rows])
    bits = 0
    for low, more in rows:
        bits = bits | more << low - least
    return least + 1, bits


def _has_length(row, length):
    """Whether a row of the table has a length."""
    return length >= row[0] and row[1] >> length - row[0] & 1 == 1


def _lengths(row):
    """The lot of the lengths of a row of the table."""
    low, bits = row
    return tuple([low + k for k in range(bits.bit_length()) if bits >> k & 1])


def _first_run(book, pool, length, table):
    """The first full run with this length, which there is."""
    ways, guard = _packed_book(book)
    run = []
    rest = _guarded(pool)
    for others in reversed(range(length)):
        steps = _steps(ways, guard, rest)
        number, rest = [step for step in steps if _has_length(table[step[1]], others)][0]
        run.append(number)
    return tuple(run)
