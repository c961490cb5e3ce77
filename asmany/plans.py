"""Least pools for so many pieces, and plans for the pieces from a pool."""

from asmany.basics import check_most, is_number, is_number_to, plus, within
from asmany.errors import InvalidNumber, Refused
from asmany.formulas import kinds_of, sizes_of
from asmany.layers import grouped, overlaid, times
from asmany.layouts import is_way
from asmany.pieces import check_pool_of, number_from, pieces
from asmany.sums import count_sums, sums_within

MOST_MANY = 20


def least_pools(formula, many, *, most=2000):
    """The lot of the least pools for so many pieces."""
    _check_many(many)
    check_most(most)
    if count_least_pools(formula, many) > most:
        raise Refused("wide")
    room = times(list(sizes_of(formula).values()), many)
    return tuple(sums_within(formula, many, room))


def count_least_pools(formula, many):
    """The number of the least pools for so many pieces."""
    _check_many(many)
    return count_sums(formula, many, {})[many]


def plan_size(formula):
    """The number of unlike ways that a plan needs at most."""
    if formula[0] == "kind":
        return 1
    if formula[0] == "many":
        return 2 * plan_size(formula[2]) - 1
    sizes = [plan_size(part) for part in formula[1]]
    return sum(sizes) if formula[0] == "or" else sum(sizes) - len(sizes) + 1


def plan_for(formula, pool, many):
    """Some plan for so many pieces from the pool."""
    most = pieces(formula, pool)
    if not is_number_to(many, most):
        raise InvalidNumber("many")
    kinds = kinds_of(formula)
    units = {kind: tuple([1 if kind == other else 0 for other in kinds]) for kind in kinds}
    counts = {}
    for way, number in _layers_of(formula, dict(zip(kinds, pool)), many, units):
        counts[way] = counts.get(way, 0) + number
    return tuple([(way, counts[way]) for way in sorted(counts)])


def is_plan(formula, pool, value):
    """Whether any value is a plan for the pool."""
    check_pool_of(formula, pool)
    if not isinstance(value, tuple):
        return False
    total = (0,) * len(pool)
    last = None
    for pair in value:
        if not isinstance(pair, tuple) or len(pair) != 2:
            return False
        way, number = pair
        if not is_way(formula, way) or not is_number(number) or number == 0:
            return False
        if last is not None and not last < way:
            return False
        total = plus(total, times(way, number))
        last = way
    return within(total, pool)


def _check_many(many):
    """Raise InvalidNumber unless `many` is a number of pieces that may be asked for."""
    if not is_number_to(many, MOST_MANY):
        raise InvalidNumber("many")


def _layers_of(formula, table, many, units):
    """The ways by which a part makes so many pieces, one after another."""
    if many == 0:
        return []
    if formula[0] == "kind":
        return [(units[formula[1]], many)]
    if formula[0] == "many":
        return grouped(_layers_of(formula[2], table, many * formula[1], units), formula[1])
    layers = []
    for at, part in enumerate(formula[1]):
        if formula[0] == "or":
            number = min(many, number_from(part, table))
            layers.extend(_layers_of(part, table, number, units))
            many = many - number
        else:
            more = _layers_of(part, table, many, units)
            layers = more if at == 0 else overlaid(layers, more)
    return layers
