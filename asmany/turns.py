"""Hands that make pieces by turns."""

from asmany.basics import MOST_IN_POOL, is_number, is_number_to
from asmany.errors import InvalidNumber
from asmany.pieces import pieces


def last_hand(formula, pool, hands, *, first=0):
    """The hand that makes the last piece, None if there is none."""
    number = pieces(formula, pool)
    if not is_number_to(hands, MOST_IN_POOL) or hands == 0:
        raise InvalidNumber("hands")
    if not is_number(first) or first >= hands:
        raise InvalidNumber("first")
    return (first + number - 1) % hands if number > 0 else None


def turn_value(shops, most):
    """What is not 0 exactly if whoever is to move can win."""
    return _value_of(_numbers_of(shops, most), most)


def good_turn(shops, most):
    """The first turn after which the value is 0, None if there is none, or if it is 0."""
    numbers = _numbers_of(shops, most)
    value = _value_of(numbers, most)
    for at, number in enumerate(numbers):
        wanted = number % (most + 1) ^ value
        taken = (number - wanted) % (most + 1)
        if wanted <= most and 0 < taken <= number:
            return at, taken
    return None


def _numbers_of(shops, most):
    """The numbers of pieces in the shops, when all is checked."""
    numbers = [pieces(formula, pool) for formula, pool in shops]
    if not is_number_to(most, MOST_IN_POOL) or most == 0:
        raise InvalidNumber("most")
    return numbers


def _value_of(numbers, most):
    """The exclusive or of the remainders."""
    value = 0
    for number in numbers:
        value = value ^ number % (most + 1)
    return value
