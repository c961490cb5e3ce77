"""Steady books: the lengths of their full runs differ by at most some number."""

from math import lcm

from asmany.bars import bars, lone_ways
from asmany.errors import Refused
from asmany.prices import cost_of, rest_cost
from asmany.runs import check_pool


def is_steady(book):
    """Whether the haste of a book is 1."""
    return all([steady_prices(book, bar) is not None for bar in bars(book)])


def steady_prices(book, bar):
    """The prices of a least bar by which all ways cost the same, None if there are none."""
    lone = lone_ways(book, bar)
    if bar not in bars(book):
        raise Refused("least")
    # A lone way costs only what its kind of the bar does: that tells the price, but for a factor.
    amounts = {kind: book.ways[lone[kind][0]][book.kinds.index(kind)] for kind in bar}
    cost = 1
    for kind in bar:
        cost = lcm(cost, amounts[kind])
    prices = tuple([cost // amounts[kind] if kind in bar else 0 for kind in book.kinds])
    return prices if all([cost_of(way, prices) == cost for way in book.ways]) else None


def steady_bounds(book, pool):
    """Two numbers between which the lengths of all full runs are."""
    check_pool(book, pool)
    least, greatest = [], []
    for bar in bars(book):
        prices = steady_prices(book, bar)
        if prices is None:
            raise Refused("unsteady")
        cheap = cost_of(book.ways[0], prices)
        whole = cost_of(pool, prices)
        least.append(-((rest_cost(book, prices) - whole) // cheap))
        greatest.append(whole // cheap)
    return max(min(least), 0), min(greatest)
