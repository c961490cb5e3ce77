"""What full runs by a formula can leave of a pool."""

from asmany.basics import are_numbers, check_most, minus, within
from asmany.errors import Refused
from asmany.formulas import kinds_of, sizes_of
from asmany.layouts import share
from asmany.pieces import check_pool_of, pieces
from asmany.sums import count_sums, sums_within

MOST_TAKEN = 1000


def is_used_up(formula, pool):
    """Whether some full run leaves nothing."""
    check_pool_of(formula, pool)
    return share(formula, pool) is not None


def can_be_left(formula, pool, value):
    """Whether any value is a pool that can be left."""
    number = pieces(formula, pool)
    if not are_numbers(value, len(pool)) or not within(value, pool):
        return False
    return share(formula, minus(pool, value)) == number


def count_left(formula, pool):
    """The number of the pools that can be left."""
    number = pieces(formula, pool)
    if number * max(list(sizes_of(formula).values())) > MOST_TAKEN:
        raise Refused("wide")
    limits = {kind: (0, amount) for kind, amount in zip(kinds_of(formula), pool)}
    return count_sums(formula, number, limits)[number]


def left_pools(formula, pool, *, most=2000):
    """All pools that can be left, ascending."""
    check_pool_of(formula, pool)
    check_most(most)
    if count_left(formula, pool) > most:
        raise Refused("wide")
    taken = sums_within(formula, pieces(formula, pool), pool)
    # What is ascending, taken from the pool, descends.
    return tuple([minus(pool, amounts) for amounts in reversed(taken)])
