"""Prices and mixes of a bar."""

from asmany.bars import check_bar
from asmany.basics import MOST_IN_POOL, are_numbers, greater
from asmany.errors import InvalidNumber, Refused
from asmany.runs import check_pool


def are_prices(book, bar, value):
    """Whether any value is prices of the bar."""
    check_bar(book, bar)
    if not _are_any_prices(book, value):
        return False
    return all([price == 0 or kind in bar for kind, price in zip(book.kinds, value)])


def way_costs(book, prices):
    """The cost of each way."""
    check_prices(book, prices)
    return tuple([cost_of(way, prices) for way in book.ways])


def rest_cost(book, prices):
    """The cost of the pool that has of each kind 1 less than the greatest amount in a way."""
    check_prices(book, prices)
    rest = [max([way[k] for way in book.ways]) - 1 for k in range(len(book.kinds))]
    return cost_of(rest, prices)


def price_limit(book, prices, pool):
    """A number that no run from the pool is longer than: its cost by that of the cheapest way."""
    cheap = min(way_costs(book, prices))
    check_pool(book, pool)
    return cost_of(pool, prices) // cheap


def is_mix(book, bar, value):
    """Whether any value is a mix of the bar."""
    check_bar(book, bar)
    if not isinstance(value, tuple) or len(value) != 2:
        return False
    for counts in value:
        if not are_numbers(counts, len(book.ways)) or max(counts) == 0:
            return False
    slow, fast = _amounts_of_mix(book, value)
    return all([kind not in bar or y <= x for kind, x, y in zip(book.kinds, slow, fast)])


def mix_pool(book, bar, mix):
    """The least pool from which the slow ways can be taken, and the fast ways, too."""
    if not is_mix(book, bar, mix):
        raise InvalidNumber("mix")
    slow, fast = _amounts_of_mix(book, mix)
    pool = greater(slow, fast)
    if max(pool) > MOST_IN_POOL:
        raise Refused("great")
    return pool


def check_prices(book, prices):
    """Raise InvalidNumber unless the value is prices of some bar."""
    if not _are_any_prices(book, prices):
        raise InvalidNumber("prices")


def cost_of(amounts, prices):
    """The sum of the amounts, each times its price."""
    return sum([amount * price for amount, price in zip(amounts, prices)])


def _are_any_prices(book, value):
    """Whether any value is prices of some bar: that of the kinds which cost something."""
    if not are_numbers(value, len(book.kinds)):
        return False
    return all([cost_of(way, value) > 0 for way in book.ways])


def _amounts_of_mix(book, mix):
    """What the slow ways take, and what the fast ways take."""
    return [
        tuple([sum([count * way[k] for count, way in zip(counts, book.ways)]) for k in range(len(book.kinds))])
        for counts in mix
    ]
