"""The haste of bars and books, and bounds on the lengths of full runs."""

from math import gcd

from asmany.balance import best_pair
from asmany.bars import bars, check_bar
from asmany.basics import MOST_IN_POOL, is_number_to
from asmany.errors import InvalidNumber, Refused
from asmany.prices import are_prices, is_mix, rest_cost, way_costs


def bar_haste(book, bar):
    """The haste of a bar, a pair of numbers without a common divisor."""
    slow, fast = best_mix(book, bar)
    return _lowest(sum(fast), sum(slow))


def best_prices(book, bar):
    """Some prices of the bar by which its haste is reached."""
    return _best_of(book, bar)[0]


def best_mix(book, bar):
    """Some mix of the bar by which its haste is reached."""
    return _best_of(book, bar)[1]


def is_best(book, bar, prices, mix):
    """Whether two values are prices and a mix by which the haste of the bar is reached."""
    if not are_prices(book, bar, prices) or not is_mix(book, bar, mix):
        return False
    costs = way_costs(book, prices)
    return sum(mix[1]) * min(costs) == sum(mix[0]) * max(costs)


def haste(book):
    """The greatest haste of a least bar."""
    greatest = (0, 1)
    for bar in bars(book):
        one = bar_haste(book, bar)
        if one[0] * greatest[1] > greatest[0] * one[1]:
            greatest = one
    return greatest


def price_table(book):
    """Some best prices for each least bar."""
    return {bar: best_prices(book, bar) for bar in bars(book)}


def longest_bound(book, table, length):
    """A length that no run is above, from a pool with a full run of a length."""
    bounds = []
    for cheap, dear, rest in _told_costs(book, table, length):
        bounds.append((length * dear + rest) // cheap)
    return max(bounds)


def sure_length(book, table, length):
    """A length that no full run is below, from a pool with a run of a length."""
    bounds = []
    for cheap, dear, rest in _told_costs(book, table, length):
        bounds.append(-((rest - length * cheap) // dear))
    return max(min(bounds), 0)


def _lowest(one, other):
    """The pair of two numbers, divided by what divides both."""
    common = gcd(one, other)
    return one // common, other // common


def _best_of(book, bar):
    """Prices and a mix of a bar by which its haste is reached."""
    check_bar(book, bar)
    ways = [tuple([amount for kind, amount in zip(book.kinds, way) if kind in bar]) for way in book.ways]
    prices, mix = best_pair(ways)
    table = dict(zip(bar, prices))
    return tuple([table.get(kind, 0) for kind in book.kinds]), mix


def _told_costs(book, table, length):
    """For each least bar cheap, dear and the cost of the rest by the prices of a table."""
    if not _is_price_table(book, table):
        raise Refused("table")
    if not is_number_to(length, MOST_IN_POOL):
        raise InvalidNumber("length")
    told = []
    for bar in bars(book):
        costs = way_costs(book, table[bar])
        told.append((min(costs), max(costs), rest_cost(book, table[bar])))
    return told


def _is_price_table(book, value):
    """Whether any value is a dict with prices for each least bar, and with no other keys."""
    if not isinstance(value, dict) or len(value) != len(bars(book)):
        return False
    return all([bar in value and are_prices(book, bar, value[bar]) for bar in bars(book)])
