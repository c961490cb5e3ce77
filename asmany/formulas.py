"""Formulas: their kinds, sizes, meetings, and normal forms."""

from asmany.basics import MOST_AMOUNT, MOST_KINDS, is_name, is_number_to
from asmany.errors import InvalidFormula


def check_formula(value):
    """Raise InvalidFormula unless the value is a formula."""
    named = {}
    joints = 0
    at = 0
    # The parts wait with the product of the numbers around them, the next one last.
    waiting = [(value, 1)]
    while waiting:
        part, times = waiting.pop()
        word = _form_of(part)
        if word is None:
            raise InvalidFormula(at)
        if word == "kind":
            if part[1] in named or len(named) == MOST_KINDS:
                raise InvalidFormula(at)
            named[part[1]] = True
        elif word == "many":
            if times * part[1] > MOST_AMOUNT:
                raise InvalidFormula(at)
            waiting.append((part[2], times * part[1]))
        else:
            joints = joints + 1
            if joints == MOST_KINDS:
                raise InvalidFormula(at)
            waiting.extend([(inner, times) for inner in reversed(part[1])])
        at = at + 1


def kinds_of(formula):
    """The lot of the kinds of a formula."""
    return tuple(sizes_of(formula))


def sizes_of(formula):
    """The greatest amount of each kind in a way."""
    sizes = {}
    _add_sizes(formula, 1, sizes)
    return {kind: sizes[kind] for kind in sorted(sizes)}


def meeting(formula, one, other):
    """0 if two kinds meet in an "and", otherwise the product of the numbers around both."""
    times = 1
    while True:
        if formula[0] == "many":
            times = times * formula[1]
            inner = formula[2]
        else:
            inner = part_with(formula[1], one)
            if other not in kinds_of(inner):
                return 0 if formula[0] == "and" else times
        formula = inner


def normal(formula):
    """The normal formula with the same kinds and ways."""
    return _normal_times(formula, 1)


def part_with(parts, kind):
    """The one of the parts in which a kind stands."""
    for part in parts:
        if kind in kinds_of(part):
            return part
    return None


def _form_of(value):
    """The word of the form that any value has, whatever its parts are; None without one."""
    if not isinstance(value, tuple) or len(value) < 2 or not isinstance(value[0], str):
        return None
    word = value[0]
    if word == "kind" and len(value) == 2 and is_name(value[1]):
        return word
    if word in ("and", "or") and len(value) == 2 and isinstance(value[1], tuple) and len(value[1]) > 1:
        return word
    if word == "many" and len(value) == 3 and is_number_to(value[1], MOST_AMOUNT) and value[1] > 1:
        return word
    return None


def _add_sizes(formula, times, sizes):
    """Put the size of each kind into the dict `sizes`."""
    if formula[0] == "kind":
        sizes[formula[1]] = times
    elif formula[0] == "many":
        _add_sizes(formula[2], times * formula[1], sizes)
    else:
        for part in formula[1]:
            _add_sizes(part, times, sizes)


def _normal_times(formula, times):
    """The normal formula for so many of a formula."""
    if formula[0] == "many":
        return _normal_times(formula[2], times * formula[1])
    if formula[0] == "and":
        return _joined("and", [_normal_times(part, times) for part in formula[1]])
    if formula[0] == "or":
        formula = _joined("or", [_normal_times(part, 1) for part in formula[1]])
    return formula if times == 1 else ("many", times, formula)


def _joined(word, parts):
    """The parts in their order, with the parts of those that have the word themselves."""
    flat = []
    for part in parts:
        flat.extend(part[1] if part[0] == word else [part])
    return word, tuple(sorted(flat, key=_first_kind))


def _first_kind(formula):
    """The first of the kinds of a formula."""
    return kinds_of(formula)[0]
