"""What several sessions by a formula serve together."""

from asmany.basics import are_numbers, check_most, is_number_to, within
from asmany.errors import InvalidNumber, Refused
from asmany.formulas import kinds_of
from asmany.pieces import check_pool_of
from asmany.serving import sessions_from, sessions_needed
from asmany.sums import laid_out

MOST_SESSIONS = 20


def count_served(formula, demand, many=1):
    """How many different tuples so many sessions serve."""
    check_pool_of(formula, demand)
    _check_many(many)
    return _counts(formula, dict(zip(kinds_of(formula), demand)), many)[-1]


def all_served(formula, demand, many=1, *, most=2000):
    """The lot of the tuples that so many sessions serve."""
    check_pool_of(formula, demand)
    _check_many(many)
    check_most(most)
    if count_served(formula, demand, many) > most:
        raise Refused("wide")
    return tuple(laid_out(formula, many, demand, sessions_from))


def is_served_by(formula, demand, value, many=1):
    """Whether any value is a tuple that so many sessions serve."""
    check_pool_of(formula, demand)
    _check_many(many)
    if not are_numbers(value, len(demand)) or not within(value, demand):
        return False
    if sessions_needed(formula, value) > many:
        return False
    for at, (served, wanted) in enumerate(zip(value, demand)):
        more = (*value[:at], served + 1, *value[at + 1:])
        if served < wanted and sessions_needed(formula, more) <= many:
            return False
    return True


def _check_many(many):
    """Raise InvalidNumber unless `many` is a number of sessions that may be asked for."""
    if not is_number_to(many, MOST_SESSIONS):
        raise InvalidNumber("many")


def _counts(formula, table, top):
    """For each number up to `top`, and up to the sessions needed, how many tuples so many sessions serve."""
    if formula[0] == "kind":
        return [1] * (min(top, table[formula[1]]) + 1)
    if formula[0] == "many":
        counts = _counts(formula[2], table, top * formula[1])
        last = len(counts) - 1
        return [counts[min(number * formula[1], last)] for number in range(-(-last // formula[1]) + 1)]
    rows = [_counts(part, table, top) for part in formula[1]]
    counts = rows[0]
    for row in rows[1:]:
        counts = _joined_counts(formula[0], counts, row, top)
    return counts


def _joined_counts(word, one, other, top):
    """The counts of an "and" or an "or" of two parts."""
    if word == "and":
        # A part that is served whole stays so.
        last = max(len(one), len(other))
        return [one[min(k, len(one) - 1)] * other[min(k, len(other) - 1)] for k in range(last)]
    # Each sum of tuples of two parts comes from the numbers of their own sessions alone.
    counts = [0] * (min(top, len(one) + len(other) - 2) + 1)
    for at, x in enumerate(one):
        last = min(len(other), len(counts) - at)
        for k in range(last):
            counts[at + k] = counts[at + k] + x * other[k]
    return counts
