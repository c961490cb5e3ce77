"""Sums of so many ways of a formula: counted, and laid out."""

from asmany.formulas import kinds_of, sizes_of
from asmany.pieces import number_from


def count_sums(formula, top, limits):
    """For each number up to `top` how many sums of so many ways are within the limits.

    These tell for some kinds the least and the greatest amount. Two such sums are unlike if they
    come from unlike sums of parts: so none is counted twice.
    """
    if formula[0] == "kind":
        low, high = limits.get(formula[1], (0, top))
        return [1 if low <= number <= high else 0 for number in range(top + 1)]
    if formula[0] == "many":
        counts = count_sums(formula[2], top * formula[1], limits)
        return [counts[number * formula[1]] for number in range(top + 1)]
    return joined_counts(formula[0], [count_sums(part, top, limits) for part in formula[1]], top)


def joined_counts(word, rows, top):
    """The counts of an "and" or an "or" of parts with these counts."""
    if word == "or":
        counts = [1] + [0] * top
        for row in rows:
            counts = divided_counts(counts, row)
        return counts
    counts = [1] * (top + 1)
    for row in rows:
        counts = [x * y for x, y in zip(counts, row)]
    return counts


def divided_counts(one, other):
    """For each number the sum of the products of counts for two numbers that sum to it."""
    counts = [0] * len(one)
    for at, x in enumerate(one):
        if x > 0:
            for k in range(len(one) - at):
                counts[at + k] = counts[at + k] + x * other[k]
    return counts


def sums_within(formula, number, pool):
    """All sums of so many ways within a pool with so many pieces, ascending."""
    return laid_out(formula, number, pool, number_from)


def laid_out(formula, number, pool, most_from):
    """All amounts of so many, each a part's number at most what `most_from` tells of it, ascending.

    With the number of pieces they are sums of ways within the pool, with that of sessions they
    are what is greatest within the pool and a sum of so many ways.
    """
    sizes = sizes_of(formula)
    kinds = kinds_of(formula)
    room = {kind: min(amount, number * sizes[kind]) for kind, amount in zip(kinds, pool)}
    # Each sum is one integer as long as it grows, with a field for each kind, the first highest.
    field = max(list(room.values())).bit_length()
    fields = [field * k for k in reversed(range(len(kinds)))]
    layout = Layout(room, dict(zip(kinds, fields)), most_from)
    last = (1 << field) - 1
    return [tuple([whole >> at & last for at in fields]) for whole in sorted(layout.sums(formula, [number])[number])]


class Layout:
    """The room for amounts that are laid out, and the fields of the integers that they are packed into."""

    def __init__(self, room, fields, most_from):
        self.room = room
        self.fields = fields
        self.most_from = most_from

    def most(self, formula):
        """The most that a part can have."""
        action = self.most_from
        return action(formula, self.room)

    def sums(self, formula, wanted):
        """For each wanted number, or the most that there can be, all amounts of so many, packed.

        Nothing is laid out that is not part of a whole sum.
        """
        top = self.most(formula)
        if formula[0] == "kind":
            return {number: [min(number, top) << self.fields[formula[1]]] for number in wanted}
        if formula[0] == "many":
            found = self.sums(formula[2], [number * formula[1] for number in wanted])
            return {number: found[number * formula[1]] for number in wanted}
        if formula[0] == "or":
            found = self._divided(formula[1], sorted(set([min(number, top) for number in wanted])))
            return {number: found[min(number, top)] for number in wanted}
        found = {number: [0] for number in wanted}
        for part in formula[1]:
            more = self.sums(part, wanted)
            found = {number: _all_sums(found[number], more[number]) for number in wanted}
        return found

    def _divided(self, parts, wanted):
        """For each wanted number all amounts of so many of the parts of an "or"."""
        tops = [self.most(part) for part in parts]
        found = {0: [0]}
        for at, part in enumerate(parts):
            reached = _reached_numbers(wanted, sum(tops[:at + 1]), sum(tops[at + 1:]))
            steps = [(number, k) for number in reached for k in found if k <= number <= k + tops[at]]
            more = self.sums(part, sorted(set([number - k for number, k in steps])))
            rows = {number: [] for number in reached}
            for number, k in steps:
                rows[number].extend(_all_sums(found[k], more[number - k]))
            found = rows
        return found


def _reached_numbers(wanted, top, rest):
    """The numbers up to `top` to which something up to `rest` may be added to get a wanted one."""
    found = []
    last = -1
    for goal in wanted:
        found.extend(list(range(max(goal - rest, last + 1), min(goal, top) + 1)))
        last = goal
    return found


def _all_sums(one, other):
    """All sums of an item of one list and an item of the other one."""
    return [x + y for x in one for y in other]
