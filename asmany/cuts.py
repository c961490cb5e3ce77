"""Formulas with nothing or always enough of some kinds."""

from asmany.basics import check_lot
from asmany.formulas import kinds_of, normal


def formula_lacking(formula, lot):
    """The normal formula of the ways that use no kind of the lot; None without one."""
    return _normal_cut(formula, lot, "and")


def formula_plenty(formula, lot):
    """The normal formula with always enough of the lot; None if some way needs no more."""
    return _normal_cut(formula, lot, "or")


def _normal_cut(formula, lot, brittle):
    """The normal formula of what is left; parts with the word `brittle` fall with each part."""
    check_lot(lot, kinds_of(formula))
    rest = _cut(formula, lot, brittle)
    return None if rest is None else normal(rest)


def _cut(formula, lot, brittle):
    """What is left of a part without the kinds of the lot, None if it falls."""
    if formula[0] == "kind":
        return None if formula[1] in lot else formula
    if formula[0] == "many":
        part = _cut(formula[2], lot, brittle)
        return None if part is None else ("many", formula[1], part)
    parts = [_cut(part, lot, brittle) for part in formula[1]]
    rest = [part for part in parts if part is not None]
    if not rest or formula[0] == brittle and len(rest) < len(parts):
        return None
    return rest[0] if len(rest) == 1 else (formula[0], tuple(rest))
