"""Numbers of pieces by a formula, and what more of a kind would do."""

from asmany.basics import check_amounts, check_kind, check_lot, is_number
from asmany.errors import InvalidNumber
from asmany.formulas import kinds_of, part_with


def check_pool_of(formula, value):
    """Raise InvalidPool unless the value is a pool of the formula."""
    check_amounts(value, len(kinds_of(formula)))


def pieces(formula, pool):
    """The number of pieces."""
    check_pool_of(formula, pool)
    return number_from(formula, dict(zip(kinds_of(formula), pool)))


def needed(formula, pool, kind, many):
    """The least amount of a kind with which there are so many pieces; None if none will do."""
    check_pool_of(formula, pool)
    check_kind(kind, kinds_of(formula))
    if not is_number(many):
        raise InvalidNumber("many")
    table = dict(zip(kinds_of(formula), pool))
    while formula[0] != "kind":
        if formula[0] == "many":
            many = many * formula[1]
            formula = formula[2]
        else:
            part = part_with(formula[1], kind)
            others = [number_from(other, table) for other in formula[1] if other != part]
            if formula[0] == "or":
                many = many - sum(others)
            elif min(others) < many:
                return None
            formula = part
    return max(many, 0)


def short_kinds(formula, pool):
    """The lot of the kinds of which more, of this one alone, makes more pieces."""
    more = pieces(formula, pool) + 1
    return tuple([kind for kind in kinds_of(formula) if needed(formula, pool, kind, more) is not None])


def pieces_with_plenty(formula, pool, lot):
    """The number of pieces with always enough of a lot of kinds, None if it is endless."""
    check_pool_of(formula, pool)
    check_lot(lot, kinds_of(formula))
    table = dict(zip(kinds_of(formula), pool))
    for kind in lot:
        table[kind] = None
    return number_from(formula, table)


def number_from(formula, table):
    """The number of pieces from the amounts in a dict; None stands for one without end."""
    if formula[0] == "kind":
        return table[formula[1]]
    if formula[0] == "many":
        number = number_from(formula[2], table)
        return None if number is None else number // formula[1]
    numbers = [number_from(part, table) for part in formula[1]]
    told = [number for number in numbers if number is not None]
    if formula[0] == "and":
        return min(told) if told else None
    return sum(told) if len(told) == len(numbers) else None
