"""The ways of a formula: laid out, counted, numbered, and told apart."""

from asmany.basics import MOST_WAYS, are_numbers, is_number, is_number_to
from asmany.books import Book
from asmany.errors import InvalidNumber, Refused
from asmany.formulas import kinds_of, part_with

MOST_LAID_OUT = 100000

# No amount of a way is above 60, so that it has a field of six bits.
FIELD = 6


def ways_of(formula, *, most=2000):
    """All ways, ascending."""
    if not is_number_to(most, MOST_LAID_OUT) or most == 0:
        raise InvalidNumber("most")
    if count_ways(formula) > most:
        raise Refused("wide")
    kinds = kinds_of(formula)
    fields = [FIELD * k for k in reversed(range(len(kinds)))]
    sums = _sums_of(formula, [1], dict(zip(kinds, fields)))[1]
    last = (1 << FIELD) - 1
    return tuple([tuple([way >> field & last for field in fields]) for way in sorted(sums)])


def book_of(formula):
    """The book of the ways."""
    return Book(kinds_of(formula), ways_of(formula, most=MOST_WAYS))


def count_ways(formula):
    """The number of ways, however many."""
    return _counts(formula, 1, {})[1]


def way_at(formula, number):
    """The way with a number."""
    if not is_number(number) or number >= count_ways(formula):
        raise InvalidNumber("number")
    told = {}
    for kind in kinds_of(formula):
        counts = _counts_by_amount(formula, kind, told)
        amount = 0
        while number >= counts[amount]:
            number = number - counts[amount]
            amount = amount + 1
        told[kind] = amount
    return tuple([told[kind] for kind in kinds_of(formula)])


def place_of_way(formula, value):
    """The number of a way, None for any other value."""
    if not is_way(formula, value):
        return None
    told = {}
    place = 0
    for kind, amount in zip(kinds_of(formula), value):
        place = place + sum(_counts_by_amount(formula, kind, told)[:amount])
        told[kind] = amount
    return place


def share(formula, amounts):
    """The number k such that the amounts are a sum of k ways, None if there is none."""
    return _share(formula, dict(zip(kinds_of(formula), amounts)))


def is_way(formula, value):
    """Whether any value is a way."""
    return are_numbers(value, len(kinds_of(formula))) and share(formula, value) == 1


def _share(formula, table):
    """The share of the amounts in a dict."""
    if formula[0] == "kind":
        return table[formula[1]]
    if formula[0] == "many":
        number = _share(formula[2], table)
        if number is None or number % formula[1] > 0:
            return None
        return number // formula[1]
    numbers = [_share(part, table) for part in formula[1]]
    if any([number is None for number in numbers]):
        return None
    if formula[0] == "or":
        return sum(numbers)
    return numbers[0] if min(numbers) == max(numbers) else None


def _sums_of(formula, wanted, fields):
    """For each wanted number all sums of so many ways, each packed into one integer.

    Two such sums are unlike if they come from unlike sums of parts: so none comes twice.
    """
    if formula[0] == "kind":
        return {number: [number << fields[formula[1]]] for number in wanted}
    if formula[0] == "many":
        sums = _sums_of(formula[2], [number * formula[1] for number in wanted], fields)
        return {number: sums[number * formula[1]] for number in wanted}
    sums = {number: [0] for number in wanted}
    if formula[0] == "and":
        for part in formula[1]:
            more = _sums_of(part, wanted, fields)
            sums = {number: _all_sums(sums[number], more[number]) for number in wanted}
        return sums
    numbers = list(range(max(wanted) + 1))
    sums = {0: [0]}
    for at, part in enumerate(formula[1]):
        more = _sums_of(part, numbers, fields)
        last = at == len(formula[1]) - 1
        sums = _divided_sums(sums, more, wanted if last else numbers)
    return sums


def _all_sums(one, other):
    """All sums of an item of one list and an item of the other one."""
    return [x + y for x in one for y in other]


def _divided_sums(one, other, wanted):
    """All sums of k ways of the one and m of the other, k and m summing to a wanted number."""
    sums = {}
    for number in wanted:
        row = []
        for k in range(number + 1):
            if k in one:
                row.extend(_all_sums(one[k], other[number - k]))
        sums[number] = row
    return sums


def _counts(formula, top, told):
    """For each number up to `top` how many sums of so many ways have the amounts told."""
    if formula[0] == "kind":
        if formula[1] not in told:
            return [1] * (top + 1)
        return [1 if told[formula[1]] == number else 0 for number in range(top + 1)]
    if formula[0] == "many":
        counts = _counts(formula[2], top * formula[1], told)
        return [counts[number * formula[1]] for number in range(top + 1)]
    rows = [_counts(part, top, told) for part in formula[1]]
    return _joined_counts(formula[0], rows, top)


def _joined_counts(word, rows, top):
    """The counts of an "and" or an "or" of parts with these counts."""
    if word == "or":
        counts = [1] + [0] * top
        for row in rows:
            counts = _divided_counts(counts, row)
        return counts
    counts = [1] * (top + 1)
    for row in rows:
        counts = [x * y for x, y in zip(counts, row)]
    return counts


def _divided_counts(one, other):
    """For each number the sum of the products of counts for two numbers that sum to it."""
    counts = [0] * len(one)
    for at, x in enumerate(one):
        if x > 0:
            for k in range(len(one) - at):
                counts[at + k] = counts[at + k] + x * other[k]
    return counts


def _counts_by_amount(formula, kind, told):
    """For each amount of a kind the number of ways that have it and the amounts told."""
    # `weights` tells how many ways come from one sum of so many ways of the part.
    weights = [0, 1]
    while formula[0] != "kind":
        if formula[0] == "many":
            weights = _spread(weights, formula[1])
            formula = formula[2]
        else:
            part = part_with(formula[1], kind)
            top = len(weights) - 1
            rows = [_counts(other, top, told) for other in formula[1] if other != part]
            beside = _joined_counts(formula[0], rows, top)
            weights = _weights_of_part(formula[0], weights, beside)
            formula = part
    return weights


def _spread(weights, times):
    """The weights of the part of a "many"."""
    wider = [0] * (times * (len(weights) - 1) + 1)
    for number, weight in enumerate(weights):
        wider[times * number] = weight
    return wider


def _weights_of_part(word, weights, beside):
    """The weights of a part of an "and" or "or", beside other parts with these counts."""
    if word == "and":
        return [x * y for x, y in zip(weights, beside)]
    # Divided from the greatest number down.
    return _divided_counts(beside, weights[::-1])[::-1]
