"""Sides: lots of kinds that show that no run is longer."""

from asmany.basics import is_lot_of
from asmany.errors import Refused
from asmany.formulas import kinds_of
from asmany.pieces import check_pool_of, pieces


def all_sides(formula):
    """The lot of all sides."""
    return tuple(sorted([tuple(sorted(side)) for side in _sides_of(formula)]))


def is_side(formula, value):
    """Whether any value is a side."""
    return is_lot_of(value, kinds_of(formula)) and value in all_sides(formula)


def side_pieces(formula, pool, side):
    """The number that comes if each "and" has the number of its part with the side."""
    check_pool_of(formula, pool)
    check_side(formula, side)
    return number_by_side(formula, dict(zip(kinds_of(formula), pool)), side, 0)


def tight_sides(formula, pool):
    """The lot of the sides by which the number of pieces comes."""
    number = pieces(formula, pool)
    return tuple([side for side in all_sides(formula) if side_pieces(formula, pool, side) == number])


def check_side(formula, value):
    """Refuse any value that is no side."""
    if not is_side(formula, value):
        raise Refused("side")


def number_by_side(formula, table, side, up):
    """The number by a side, from the amounts in a dict; a "many" rounds up if `up` is 1, down if it is 0."""
    if formula[0] == "kind":
        return table[formula[1]]
    if formula[0] == "many":
        number = number_by_side(formula[2], table, side, up)
        return (number + up * (formula[1] - 1)) // formula[1]
    parts = [part for part in formula[1] if any([kind in side for kind in kinds_of(part)])]
    # Of an "and" just one part has kinds of the side.
    return sum([number_by_side(part, table, side, up) for part in parts])


def _sides_of(formula):
    """All sides, as lists of kinds in any order."""
    if formula[0] == "kind":
        return [[formula[1]]]
    if formula[0] == "many":
        return _sides_of(formula[2])
    rows = [_sides_of(part) for part in formula[1]]
    if formula[0] == "and":
        return [side for row in rows for side in row]
    sides = [[]]
    for row in rows:
        sides = [[*one, *other] for one in sides for other in row]
    return sides
