"""Fair prices: all full runs leave amounts of one price."""

from math import gcd, lcm

from asmany.errors import InvalidNumber, Refused
from asmany.formulas import kinds_of, normal
from asmany.prices import cost_of
from asmany.worths import MOST_WORTH, are_integers, are_level

MOST_PRICE = 10 ** 18


def is_fair(book, prices):
    """Whether from each pool all full runs leave amounts of one price."""
    _check_prices(book.kinds, prices)
    return are_level(book, [cost_of(way, prices) for way in book.ways])


def piece_worths(formula, prices):
    """The price of a way of each part, None if the prices are not fair."""
    _check_prices(kinds_of(formula), prices)
    table = dict(zip(kinds_of(formula), prices))
    found = [_price_of(part, table) for part in _parts_of(formula)]
    return None if None in found else tuple(found)


def worth_steps(formula):
    """The step of each part: a way of it may have exactly the multiples as its price."""
    return tuple([_step_of(part) for part in _parts_of(formula)])


def fair_prices(formula, worths):
    """Some fair prices by which a way of each part has a told price."""
    parts = _parts_of(formula)
    if not are_integers(worths, len(parts), MOST_WORTH):
        raise InvalidNumber("worths")
    if any([worth % step > 0 for worth, step in zip(worths, worth_steps(formula))]):
        raise Refused("step")
    found = {}
    for part, worth in zip(parts, worths):
        _put_prices(part, worth, found)
    return tuple([found[kind] for kind in kinds_of(formula)])


def _check_prices(kinds, prices):
    """Raise InvalidNumber unless there is a signed price for each kind."""
    if not are_integers(prices, len(kinds), MOST_PRICE):
        raise InvalidNumber("prices")


def _parts_of(formula):
    """The parts of the root of the normal formula if it is an "or", otherwise the formula alone."""
    formula = normal(formula)
    return formula[1] if formula[0] == "or" else (formula,)


def _price_of(formula, table):
    """The price that all ways of a part have, None if they have different ones."""
    if formula[0] == "kind":
        return table[formula[1]]
    if formula[0] == "many":
        price = _price_of(formula[2], table)
        return None if price is None else formula[1] * price
    found = [_price_of(part, table) for part in formula[1]]
    if None in found:
        return None
    if formula[0] == "and":
        return sum(found)
    return found[0] if min(found) == max(found) else None


def _step_of(formula):
    """The step of a part."""
    if formula[0] == "kind":
        return 1
    if formula[0] == "many":
        return formula[1] * _step_of(formula[2])
    step = _step_of(formula[1][0])
    for part in formula[1][1:]:
        step = gcd(step, _step_of(part)) if formula[0] == "and" else lcm(step, _step_of(part))
    return step


def _put_prices(formula, worth, found):
    """Put into the dict prices by which each way of a part has a price that is a multiple of its step."""
    if formula[0] == "kind":
        found[formula[1]] = worth
    elif formula[0] == "many":
        _put_prices(formula[2], worth // formula[1], found)
    elif formula[0] == "or":
        for part in formula[1]:
            _put_prices(part, worth, found)
    else:
        for at, part in enumerate(formula[1]):
            rest = 0
            for other in formula[1][at + 1:]:
                rest = gcd(rest, _step_of(other))
            given = _first_multiple(_step_of(part), rest, worth)
            _put_prices(part, given, found)
            worth = worth - given


def _first_multiple(step, rest, worth):
    """The first multiple of a step that leaves a multiple of `rest`; all of it if nothing comes later."""
    if rest == 0:
        return worth
    common = gcd(step, rest)
    return step * (worth // common * _inverse(step // common, rest // common) % (rest // common))


def _inverse(number, whole):
    """What times a number leaves 1 when it is divided by another one, with no common divisor."""
    one, other = (number, 1), (whole, 0)
    while other[0] > 0:
        count = one[0] // other[0]
        one, other = other, (one[0] - count * other[0], one[1] - count * other[1])
    return one[1]
