"""Numbers of sessions by a formula, sides that show them, and covers."""

from asmany.formulas import kinds_of
from asmany.pieces import check_pool_of
from asmany.sides import all_sides, check_side, number_by_side


def sessions_needed(formula, demand):
    """The length of all complete rounds of a demand."""
    check_pool_of(formula, demand)
    return sessions_from(formula, dict(zip(kinds_of(formula), demand)))


def side_sessions(formula, demand, side):
    """The number that comes if each "and" has the number of its part with the side."""
    check_pool_of(formula, demand)
    check_side(formula, side)
    return number_by_side(formula, dict(zip(kinds_of(formula), demand)), side, 1)


def tight_session_side(formula, demand):
    """Some side by which the number of sessions comes."""
    number = sessions_needed(formula, demand)
    return [side for side in all_sides(formula) if side_sessions(formula, demand, side) == number][0]


def whole_cover(formula, demand):
    """Some sum of so many ways as there are sessions, with the demand within it."""
    number = sessions_needed(formula, demand)
    found = {}
    _cover(formula, dict(zip(kinds_of(formula), demand)), number, found)
    return tuple([found[kind] for kind in kinds_of(formula)])


def sessions_from(formula, table):
    """The number of sessions for the amounts in a dict."""
    if formula[0] == "kind":
        return table[formula[1]]
    if formula[0] == "many":
        return -(-sessions_from(formula[2], table) // formula[1])
    numbers = [sessions_from(part, table) for part in formula[1]]
    return max(numbers) if formula[0] == "and" else sum(numbers)


def _cover(formula, table, number, found):
    """Put into the dict a sum of so many ways, enough of them, with the amounts within it."""
    if formula[0] == "kind":
        found[formula[1]] = number
    elif formula[0] == "many":
        _cover(formula[2], table, number * formula[1], found)
    elif formula[0] == "and":
        for part in formula[1]:
            _cover(part, table, number, found)
    else:
        spare = number - sessions_from(formula, table)
        for part in formula[1]:
            _cover(part, table, sessions_from(part, table) + spare, found)
            spare = 0
