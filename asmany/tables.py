"""Tables of books and formulas, and the formula of a table."""

from asmany.formulas import kinds_of, meeting, normal


def most_of(book):
    """For each kind the greatest amount of it in a way."""
    return {kind: max([way[k] for way in book.ways]) for k, kind in enumerate(book.kinds)}


def pair_table(book):
    """For each two kinds 0, or the number of amounts on the line between their greatest ones."""
    most = most_of(book)
    amounts = {kind: [way[k] for way in book.ways] for k, kind in enumerate(book.kinds)}
    table = {}
    for one, other in two_of(book.kinds):
        pairs = list(zip(amounts[one], amounts[other]))
        table[(one, other)] = _number_on_line(pairs, most[one], most[other])
    return table


def formula_pairs(formula):
    """For each two kinds of a formula their meeting."""
    return {(one, other): meeting(formula, one, other) for one, other in two_of(kinds_of(formula))}


def formula_of_table(most, pairs):
    """The normal formula with this table, None if there is none."""
    kinds = sorted(most)
    meets = {}
    for one, other in two_of(kinds):
        meets[(one, other)] = meets[(other, one)] = pairs[(one, other)]
    formula = _formula_of(kinds, most, meets, 1)
    return None if formula is None else normal(formula)


def two_of(kinds):
    """Each two of the kinds, the first one less."""
    return [(one, other) for one in kinds for other in kinds if one < other]


def _number_on_line(pairs, most, other):
    """The value of the pair table for two kinds, from their amounts in the ways."""
    if (most, other) in pairs:
        return 0
    return len(set([a for a, c in pairs if a > 0 and a * other + c * most == most * other]))


def _formula_of(kinds, most, meets, times):
    """The formula of some kinds inside of so many, None if there is none."""
    if len(kinds) == 1:
        return _so_many(most[kinds[0]], times, ("kind", kinds[0]))
    told = [meets[(one, other)] for one in kinds for other in kinds if one != other]
    parts = _apart(kinds, meets, 0)
    if len(parts) > 1:
        return _joined("and", [_formula_of(part, most, meets, times) for part in parts])
    least = min([number for number in told if number > 0])
    parts = _apart(kinds, meets, least)
    if len(parts) == 1:
        return None
    joined = _joined("or", [_formula_of(part, most, meets, least) for part in parts])
    return None if joined is None else _so_many(least, times, joined)


def _so_many(number, times, formula):
    """So many of a formula, from a number that counts those around as well."""
    if number % times > 0:
        return None
    return formula if number == times else ("many", number // times, formula)


def _joined(word, parts):
    """The parts together, None if one of them is missing."""
    return None if None in parts else (word, tuple(parts))


def _apart(kinds, meets, number):
    """The kinds in parts such that each two kinds of different parts have the number as theirs."""
    parts = []
    for kind in kinds:
        near = [part for part in parts if any([meets[(kind, other)] != number for other in part])]
        parts = [part for part in parts if part not in near]
        parts.append([kind, *[other for part in near for other in part]])
    return parts
