"""Sums of so many ways of a formula: counted, and laid out."""

from asmany.formulas import kinds_of, sizes_of
from asmany.pieces import number_from


def count_sums(formula, top, limits):
    """For each number up to `top` how many sums of so many ways are within the limits.

    These tell for some kinds the least and the greatest amount. Two such sums are unlike if they
    come from unlike sums of parts: so none is counted twice.
    """
    if formula[0] == "kind":
        low, high = limits.get(formula[1], (0, top))
        return [1 if low <= number <= high else 0 for number in range(top + 1)]
    if formula[0] == "many":
        counts = count_sums(formula[2], top * formula[1], limits)
        return [counts[number * formula[1]] for number in range(top + 1)]
    return joined_counts(formula[0], [count_sums(part, top, limits) for part in formula[1]], top)


def joined_counts(word, rows, top):
    """The counts of an "and" or an "or" of parts with these counts."""
    if word == "or":
        counts = [1] + [0] * top
        for row in rows:
            counts = divided_counts(counts, row)
        return counts
    counts = [1] * (top + 1)
    for row in rows:
        counts = [x * y for x, y in zip(counts, row)]
    return counts


def divided_counts(one, other):
    """For each number the sum of the products of counts for two numbers that sum to it."""
    counts = [0] * len(one)
    for at, x in enumerate(one):
        if x > 0:
            for k in range(len(one) - at):
                counts[at + k] = counts[at + k] + x * other[k]
    return counts


def sums_within(formula, number, pool):
    """All sums of so many ways within a pool with so many pieces, ascending."""
    sizes = sizes_of(formula)
    kinds = kinds_of(formula)
    room = {kind: min(amount, number * sizes[kind]) for kind, amount in zip(kinds, pool)}
    # Each sum is one integer as long as it grows, with a field for each kind, the first highest.
    field = max(list(room.values())).bit_length()
    fields = [field * k for k in reversed(range(len(kinds)))]
    sums = _sums_of(formula, [number], room, dict(zip(kinds, fields)))[number]
    last = (1 << field) - 1
    return [tuple([whole >> at & last for at in fields]) for whole in sorted(sums)]


def _sums_of(formula, wanted, room, fields):
    """For each wanted number all sums of so many ways within the room, packed.

    The room has so many ways. Nothing is laid out that is not part of a whole sum.
    """
    if formula[0] == "kind":
        return {number: [number << fields[formula[1]]] for number in wanted}
    if formula[0] == "many":
        sums = _sums_of(formula[2], [number * formula[1] for number in wanted], room, fields)
        return {number: sums[number * formula[1]] for number in wanted}
    if formula[0] == "or":
        return _divided_sums(formula[1], wanted, room, fields)
    sums = {number: [0] for number in wanted}
    for part in formula[1]:
        more = _sums_of(part, wanted, room, fields)
        sums = {number: _all_sums(sums[number], more[number]) for number in wanted}
    return sums


def _divided_sums(parts, wanted, room, fields):
    """For each wanted number all sums of so many ways of the parts of an "or"."""
    tops = [number_from(part, room) for part in parts]
    sums = {0: [0]}
    for at, part in enumerate(parts):
        reached = _reached_numbers(wanted, sum(tops[:at + 1]), sum(tops[at + 1:]))
        steps = [(number, k) for number in reached for k in sums if k <= number <= k + tops[at]]
        more = _sums_of(part, sorted(set([number - k for number, k in steps])), room, fields)
        rows = {number: [] for number in reached}
        for number, k in steps:
            rows[number].extend(_all_sums(sums[k], more[number - k]))
        sums = rows
    return sums


def _reached_numbers(wanted, top, rest):
    """The numbers up to `top` to which something up to `rest` may be added to get a wanted one."""
    found = []
    last = -1
    for goal in wanted:
        found.extend(list(range(max(goal - rest, last + 1), min(goal, top) + 1)))
        last = goal
    return found


def _all_sums(one, other):
    """All sums of an item of one list and an item of the other one."""
    return [x + y for x in one for y in other]
