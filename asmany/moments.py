"""Pieces ordered for moments at which amounts come."""

from asmany.basics import MOST_IN_POOL, are_numbers, check_kind, is_number_to, plus
from asmany.errors import InvalidNumber, InvalidRun
from asmany.formulas import kinds_of
from asmany.pieces import needed, pieces


def totals(formula, comings):
    """For each moment the number of pieces from all that came up to it."""
    return tuple([pieces(formula, pool) for pool in _pools(formula, comings)])


def backlog(formula, comings, orders):
    """For each moment how many of the pieces ordered up to it are not yet made."""
    made = totals(formula, comings)
    ordered = _ordered(comings, orders)
    return tuple([max(wanted - number, 0) for wanted, number in zip(ordered, made)])


def missing(formula, comings, orders, kind):
    """The least amount of a kind, there from the beginning, with which nothing is left to make."""
    pools = _pools(formula, comings)
    ordered = _ordered(comings, orders)
    check_kind(kind, kinds_of(formula))
    at = kinds_of(formula).index(kind)
    most = 0
    for pool, wanted in zip(pools, ordered):
        amount = needed(formula, pool, kind, wanted)
        if amount is None:
            return None
        most = max(most, amount - pool[at])
    return most


def _pools(formula, comings):
    """For each moment what came up to it, when that is checked."""
    if not isinstance(comings, tuple):
        raise InvalidRun(-1)
    pools = []
    total = (0,) * len(kinds_of(formula))
    for at, pool in enumerate(comings):
        if not are_numbers(pool, len(total)):
            raise InvalidRun(at)
        total = plus(total, pool)
        if max(total) > MOST_IN_POOL:
            raise InvalidRun(at)
        pools.append(total)
    return pools


def _ordered(comings, orders):
    """For each moment how many pieces are ordered up to it, when these are checked."""
    if not are_numbers(orders, len(comings)):
        raise InvalidNumber("orders")
    sums = []
    for number in orders:
        if not is_number_to(number, MOST_IN_POOL):
            raise InvalidNumber("orders")
        sums.append(number + (sums[-1] if sums else 0))
    return sums
