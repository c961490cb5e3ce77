"""The ways of a formula: laid out, counted, numbered, and told apart."""

from asmany.basics import MOST_WAYS, are_numbers, check_most, is_number
from asmany.books import Book
from asmany.errors import InvalidNumber, Refused
from asmany.formulas import kinds_of, part_with, sizes_of
from asmany.sums import count_sums, divided_counts, joined_counts, sums_within


def ways_of(formula, *, most=2000):
    """All ways, ascending."""
    check_most(most)
    if count_ways(formula) > most:
        raise Refused("wide")
    return tuple(sums_within(formula, 1, list(sizes_of(formula).values())))


def book_of(formula):
    """The book of the ways."""
    return Book(kinds_of(formula), ways_of(formula, most=MOST_WAYS))


def count_ways(formula):
    """The number of ways, however many."""
    return count_sums(formula, 1, {})[1]


def way_at(formula, number):
    """The way with a number."""
    if not is_number(number) or number >= count_ways(formula):
        raise InvalidNumber("number")
    told = {}
    for kind in kinds_of(formula):
        counts = _counts_by_amount(formula, kind, told)
        amount = 0
        while number >= counts[amount]:
            number = number - counts[amount]
            amount = amount + 1
        told[kind] = (amount, amount)
    return tuple([told[kind][0] for kind in kinds_of(formula)])


def place_of_way(formula, value):
    """The number of a way, None for any other value."""
    if not is_way(formula, value):
        return None
    told = {}
    place = 0
    for kind, amount in zip(kinds_of(formula), value):
        place = place + sum(_counts_by_amount(formula, kind, told)[:amount])
        told[kind] = (amount, amount)
    return place


def share(formula, amounts):
    """The number k such that the amounts are a sum of k ways, None if there is none."""
    return _share(formula, dict(zip(kinds_of(formula), amounts)))


def is_way(formula, value):
    """Whether any value is a way."""
    return are_numbers(value, len(kinds_of(formula))) and share(formula, value) == 1


def _share(formula, table):
    """The share of the amounts in a dict."""
    if formula[0] == "kind":
        return table[formula[1]]
    if formula[0] == "many":
        number = _share(formula[2], table)
        if number is None or number % formula[1] > 0:
            return None
        return number // formula[1]
    numbers = [_share(part, table) for part in formula[1]]
    if any([number is None for number in numbers]):
        return None
    if formula[0] == "or":
        return sum(numbers)
    return numbers[0] if min(numbers) == max(numbers) else None


def _counts_by_amount(formula, kind, told):
    """For each amount of a kind the number of ways that have it and the amounts told."""
    # `weights` tells how many ways come from one sum of so many ways of the part.
    weights = [0, 1]
    while formula[0] != "kind":
        if formula[0] == "many":
            weights = _spread(weights, formula[1])
            formula = formula[2]
        else:
            part = part_with(formula[1], kind)
            top = len(weights) - 1
            rows = [count_sums(other, top, told) for other in formula[1] if other != part]
            beside = joined_counts(formula[0], rows, top)
            weights = _weights_of_part(formula[0], weights, beside)
            formula = part
    return weights


def _spread(weights, times):
    """The weights of the part of a "many"."""
    wider = [0] * (times * (len(weights) - 1) + 1)
    for number, weight in enumerate(weights):
        wider[times * number] = weight
    return wider


def _weights_of_part(word, weights, beside):
    """The weights of a part of an "and" or "or", beside other parts with these counts."""
    if word == "and":
        return [x * y for x, y in zip(weights, beside)]
    # Divided from the greatest number down.
    return divided_counts(beside, weights[::-1])[::-1]
