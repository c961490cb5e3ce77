"""Two hands with kinds of their own."""

from asmany.basics import check_lot, is_number
from asmany.errors import InvalidNumber
from asmany.formulas import kinds_of
from asmany.pieces import check_pool_of


def hand_limits(formula, pool, lot, other):
    """The most pieces by the one hand, by the other one, and by both together."""
    _check_hands(formula, pool, lot, other)
    return _limits(formula, _offers(formula, pool, lot, other))


def share_pool(formula, pool, lot, other, many, rest):
    """Two pools from which the hands can make so many pieces; None if they cannot."""
    _check_hands(formula, pool, lot, other)
    if not is_number(many):
        raise InvalidNumber("many")
    if not is_number(rest):
        raise InvalidNumber("rest")
    offers = _offers(formula, pool, lot, other)
    one, two, both = _limits(formula, offers)
    if many > one or rest > two or many + rest > both:
        return None
    given = {}
    _give(formula, offers, many, rest, given)
    pairs = [given[kind] for kind in kinds_of(formula)]
    return tuple([pair[0] for pair in pairs]), tuple([pair[1] for pair in pairs])


def _check_hands(formula, pool, lot, other):
    """Raise an error unless there are a pool and two lots of kinds."""
    check_pool_of(formula, pool)
    check_lot(lot, kinds_of(formula))
    check_lot(other, kinds_of(formula), "other")


def _offers(formula, pool, lot, other):
    """For each kind the limits of what the hands can take of it."""
    offers = {}
    for kind, amount in zip(kinds_of(formula), pool):
        one = amount if kind in lot else 0
        two = amount if kind in other else 0
        offers[kind] = (one, two, max(one, two))
    return offers


def _limits(formula, offers):
    """The limits of a part: two numbers are possible if they and their sum are within them."""
    if formula[0] == "kind":
        return offers[formula[1]]
    if formula[0] == "many":
        return _with_sum([limit // formula[1] for limit in _limits(formula[2], offers)])
    rows = [_limits(part, offers) for part in formula[1]]
    if formula[0] == "or":
        return tuple([sum([row[k] for row in rows]) for k in range(3)])
    return _with_sum([min([row[k] for row in rows]) for k in range(3)])


def _with_sum(limits):
    """The limits, the third one no more than the sum of the others."""
    one, two, both = limits
    return one, two, min(one + two, both)


def _give(formula, offers, many, rest, given):
    """Put into the dict what each hand takes of each kind for such numbers of a part."""
    if formula[0] == "kind":
        given[formula[1]] = (many, rest)
    elif formula[0] == "many":
        _give(formula[2], offers, many * formula[1], rest * formula[1], given)
    elif formula[0] == "and":
        for part in formula[1]:
            _give(part, offers, many, rest, given)
    else:
        rows = [_limits(part, offers) for part in formula[1]]
        for at, part in enumerate(formula[1]):
            later = [sum([row[k] for row in rows[at + 1:]]) for k in range(3)]
            one, two = _taken(rows[at], later, many, rest)
            _give(part, offers, one, two, given)
            many, rest = many - one, rest - two


def _taken(limits, later, many, rest):
    """What a part must give at least, if later ones have such limits."""
    one, two = max(many - later[0], 0), max(rest - later[1], 0)
    short = max(many + rest - later[2] - one - two, 0)
    more = min(short, min(limits[0], many) - one)
    return one + more, two + short - more
