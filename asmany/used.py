"""Bounds on what full runs leave, and the cheapest and the dearest that they leave."""

from asmany.basics import greater, minus, plus
from asmany.buying import check_unit_prices
from asmany.formulas import kinds_of, normal
from asmany.layers import grouped, merged, overlaid, times
from asmany.pieces import check_pool_of, number_from, pieces


def left_bounds(formula, pool):
    """For each kind the least and the greatest amount that can be left."""
    number = pieces(formula, pool)
    found = {}
    _put_bounds(formula, dict(zip(kinds_of(formula), pool)), number, number, found)
    return tuple([found[kind] for kind in kinds_of(formula)])


def cheapest_left(formula, pool, prices):
    """Some pool of the least worth that can be left."""
    check_pool_of(formula, pool)
    check_unit_prices(formula, prices)
    return _left_by(formula, pool, [-price for price in prices])


def dearest_left(formula, pool, prices):
    """Some pool of the greatest worth that can be left."""
    check_pool_of(formula, pool)
    check_unit_prices(formula, prices)
    return _left_by(formula, pool, prices)


def is_left_sure(formula, pool):
    """Whether only one pool can be left."""
    return _first_unsure(formula, pool) is None


def unlike_lefts(formula, pool):
    """Two different pools that can be left, None if there is only one."""
    at = _first_unsure(formula, pool)
    if at is None:
        return None
    prices = tuple([1 if k == at else 0 for k in range(len(pool))])
    return cheapest_left(formula, pool, prices), dearest_left(formula, pool, prices)


def unsure_pool(formula):
    """Some pool from which different pools can be left, None if there is none."""
    whole = normal(formula)
    for part in whole[1] if whole[0] == "or" else (whole,):
        one, other = _two_ways(part, 1)
        if one != other:
            rows = [tuple([way.get(kind, 0) for kind in kinds_of(formula)]) for way in (one, other)]
            return greater(rows[0], rows[1])
    return None


def _put_bounds(formula, table, low, high, found):
    """Put into the dict the bounds of each kind of a part that has so many ways to give."""
    if formula[0] == "kind":
        found[formula[1]] = (table[formula[1]] - high, table[formula[1]] - low)
    elif formula[0] == "many":
        _put_bounds(formula[2], table, low * formula[1], high * formula[1], found)
    elif formula[0] == "and":
        for part in formula[1]:
            _put_bounds(part, table, low, high, found)
    else:
        numbers = [number_from(part, table) for part in formula[1]]
        for part, number in zip(formula[1], numbers):
            least = max(low - sum(numbers) + number, 0)
            _put_bounds(part, table, least, min(number, high), found)


def _first_unsure(formula, pool):
    """The index of the first kind with two different bounds, None if there is none."""
    for at, (least, greatest) in enumerate(left_bounds(formula, pool)):
        if least < greatest:
            return at
    return None


def _left_by(formula, pool, prices):
    """What is left of a pool when the pieces are made of what has the least prices."""
    kinds = kinds_of(formula)
    offers = {}
    for at, kind in enumerate(kinds):
        # Behind the price, which is compared first, stands the amount of each kind.
        unit = tuple([1 if other == kind else 0 for other in kinds])
        offers[kind] = ((prices[at], *unit), pool[at])
    used = (0,) * (len(kinds) + 1)
    for amounts, number in _layers_of(formula, offers):
        used = plus(used, times(amounts, number))
    return minus(pool, used[1:])


def _layers_of(formula, offers):
    """All ways by which a part makes its pieces, one after another, the least prices first."""
    if formula[0] == "kind":
        return merged([offers[formula[1]]])
    if formula[0] == "many":
        return merged(grouped(_layers_of(formula[2], offers), formula[1]))
    rows = [_layers_of(part, offers) for part in formula[1]]
    if formula[0] == "or":
        return merged(sorted([layer for row in rows for layer in row]))
    layers = rows[0]
    for row in rows[1:]:
        layers = overlaid(layers, row)
    return merged(layers)


def _two_ways(formula, number):
    """Two sums of so many ways of a normal formula, as dicts; unlike if there are unlike ones.

    Of an "and" the two differ in one part alone, and of a "many" in one of its ways: so they have
    a common kind, where the formula is no "or".
    """
    if formula[0] == "kind":
        return {formula[1]: number}, {formula[1]: number}
    if formula[0] == "many":
        return _two_ways(formula[2], number * formula[1])
    if formula[0] == "or":
        first, second = formula[1][0], formula[1][1]
        rest, _ = _two_ways(first, number - 1)
        further, _ = _two_ways(second, 1)
        return _two_ways(first, number)[0], {**rest, **further}
    one, other = {}, {}
    for part in formula[1]:
        more, unlike = _two_ways(part, number)
        # Only the first part with unlike ways gives them.
        beside = unlike if one == other else more
        one, other = {**one, **more}, {**other, **beside}
    return one, other
