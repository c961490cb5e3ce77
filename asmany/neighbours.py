"""Even books with one way less or one way more, by their formulas.

A formula is worked with in normal form, so that a part has just one way if it is a kind, so many
of a kind, or an "and" of such: then it is called single. A way alone can go or come only where
all that stands beside the way down to it is an "or" or single: anything else would take the kinds
of the way for other ways, too.
"""

from asmany.basics import MOST_KINDS
from asmany.edits import is_bundle
from asmany.errors import Refused
from asmany.formulas import kinds_of, normal, part_with, sizes_of


def may_go(formula):
    """The lot of the bundles of the ways without which the other ways are an even book."""
    return tuple(sorted([change[0] for change in _goings(normal(formula))]))


def may_come(formula):
    """The lot of the bundles of kinds of the formula with which there is an even book."""
    return tuple(sorted([change[0] for change in _comings(normal(formula))]))


def stems(formula):
    """The lot of the amounts of kinds of the formula that a bundle with other kinds may have."""
    return tuple(sorted(_stems(normal(formula))))


def formula_without(formula, bundle):
    """The formula of the ways when a bundle has gone, None for what is no bundle that may."""
    return _changed(_goings(normal(formula)), bundle)


def formula_with(formula, bundle):
    """The formula of the ways when a bundle has come, None for what is no bundle that may."""
    if not is_bundle(bundle):
        return None
    kinds = kinds_of(formula)
    others = tuple([pair for pair in bundle if pair[0] not in kinds])
    if len(kinds) + len(others) > MOST_KINDS:
        raise Refused("wide")
    if not others:
        return _changed(_comings(normal(formula)), bundle)
    stem = tuple([pair for pair in bundle if pair[0] in kinds])
    if stem not in stems(formula):
        return None
    return normal(_with_beside(normal(formula), stem, all_of(others)))


def _changed(changes, bundle):
    """The normal formula that one of the changes makes by a bundle, None if none of them does."""
    if not is_bundle(bundle):
        return None
    for told, formula in changes:
        if told == bundle:
            return normal(formula)
    return None


def is_single(formula):
    """Whether a normal formula has just one way."""
    if formula[0] == "and":
        return all([is_single(part) for part in formula[1]])
    return formula[0] == "kind" or formula[0] == "many" and formula[2][0] == "kind"


def single_bundle(formula):
    """The bundle of the way of a single formula."""
    return tuple(sizes_of(formula).items())


def all_of(bundle):
    """The formula of one way with these amounts."""
    return joined("and", [("kind", name) if amount == 1 else ("many", amount, ("kind", name))
                           for name, amount in bundle])


def joined(word, parts):
    """The parts together; one part alone."""
    return parts[0] if len(parts) == 1 else (word, tuple(parts))


def bundle_sum(one, other):
    """The sum of two bundles, perhaps with common kinds."""
    table = dict(one)
    for name, amount in other:
        table[name] = table.get(name, 0) + amount
    return tuple([(name, table[name]) for name in sorted(table)])


def _replaced(parts, at, news):
    """The parts with others in the place of one."""
    return [*parts[:at], *news, *parts[at + 1:]]


def _changes_inside(formula, changes_of):
    """For each change inside of a part: its whole bundle, and the formula that it makes."""
    found = []
    parts = formula[1]
    beside = ()
    if formula[0] == "and":
        beside, wide = parts_of_and(formula)
        if len(wide) > 1:
            return found
    for at, part in enumerate(parts):
        for bundle, changed in changes_of(part):
            found.append((bundle_sum(beside, bundle), (formula[0], tuple(_replaced(parts, at, [changed])))))
    return found


def _goings(formula):
    """Each bundle that may go, with the formula that is left."""
    if formula[0] == "many":
        return goings_of_two(formula)
    if formula[0] == "kind":
        return []
    found = _changes_inside(formula, _goings)
    if formula[0] == "or":
        for at, part in enumerate(formula[1]):
            if is_single(part):
                found.append((single_bundle(part), joined("or", _replaced(formula[1], at, []))))
    return found


def goings_of_two(formula):
    """The bundle that may go if a formula is two of two single parts: one of each."""
    if formula[1] != 2 or formula[2][0] != "or" or len(formula[2][1]) > 2:
        return []
    parts = formula[2][1]
    if not is_single(parts[0]) or not is_single(parts[1]):
        return []
    both = bundle_sum(single_bundle(parts[0]), single_bundle(parts[1]))
    return [(both, ("or", tuple([("many", 2, part) for part in parts])))]


def _comings(formula):
    """Each bundle of kinds of the formula that may come, with the formula that it makes."""
    if formula[0] not in ("and", "or"):
        return []
    found = _changes_inside(formula, _comings)
    if formula[0] == "and":
        return found
    parts = [part for part in formula[1] if _is_halved(part)]
    for at, one in enumerate(parts):
        for other in parts[at + 1:]:
            halves = [_half(one), _half(other)]
            rest = [part for part in formula[1] if part not in (one, other)]
            two = ("many", 2, ("or", tuple([all_of(half) for half in halves])))
            found.append((bundle_sum(halves[0], halves[1]), joined("or", [*rest, two])))
    return found


def _is_halved(part):
    """Whether a part has just one way, of which the half is whole."""
    return is_single(part) and all([amount % 2 == 0 for name, amount in single_bundle(part)])


def _half(part):
    """The half of the bundle of a single part."""
    return tuple([(name, amount // 2) for name, amount in single_bundle(part)])


def parts_of_and(formula):
    """The kinds of the single parts of an "and", with their amounts, and its other parts."""
    singles = [part for part in formula[1] if is_single(part)]
    wide = [part for part in formula[1] if not is_single(part)]
    return single_bundle(joined("and", singles)) if singles else (), wide


def _stems(formula):
    """All stems."""
    if formula[0] == "or":
        found = [()]
        for part in formula[1]:
            found.extend([stem for stem in _stems(part) if stem])
        return found
    if formula[0] != "and":
        return [()]
    singles, wide = parts_of_and(formula)
    found = [()]
    for pair in singles:
        found = [*found, *[(*stem, pair) for stem in found]]
    if not wide:
        # All of the kinds together would leave nothing beside which there may be more.
        found.pop()
    if len(wide) == 1:
        found.extend([bundle_sum(singles, stem) for stem in _stems(wide[0]) if stem])
    return found


def _with_beside(formula, stem, further):
    """The formula with a further one beside what a stem leaves."""
    if not stem:
        return "or", (formula, further)
    if formula[0] == "or":
        inside = part_with(formula[1], stem[0][0])
        others = [part for part in formula[1] if part != inside]
        return "or", (*others, _with_beside(inside, stem, further))
    singles, wide = parts_of_and(formula)
    rest = [pair for pair in singles if pair not in stem]
    inner = tuple([pair for pair in stem if pair not in singles])
    if inner:
        return "and", (all_of(singles), _with_beside(wide[0], inner, further))
    left = joined("and", [*wide, *[all_of((pair,)) for pair in rest]])
    return "and", (all_of(stem), ("or", (left, further)))
