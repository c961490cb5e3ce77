"""Layers: rows of pairs of amounts and a number, how often these amounts come one after another.

The number of the last pair may be None: then it never ends.
"""

from asmany.basics import plus


def times(amounts, number):
    """So many times the amounts."""
    return tuple([amount * number for amount in amounts])


def overlaid(one, other):
    """The layers of the sums: each time the next amounts of both."""
    found = []
    one, other = list(reversed(one)), list(reversed(other))
    while one and other:
        amounts, number = one.pop()
        beside, most = other.pop()
        least = _least_number(number, most)
        found.append((plus(amounts, beside), least))
        if least is None:
            break
        _put_back(one, amounts, number, least)
        _put_back(other, beside, most, least)
    return found


def grouped(layers, size):
    """The layers of the sums of so many amounts that come one after another."""
    found = []
    begun, count = None, 0
    for amounts, number in layers:
        if count > 0:
            taken = _least_number(number, size - count)
            begun, count = plus(begun, times(amounts, taken)), count + taken
            if count < size:
                continue
            found.append((begun, 1))
            number = None if number is None else number - taken
        if number is None:
            found.append((times(amounts, size), None))
            break
        if number >= size:
            found.append((times(amounts, size), number // size))
        count = number % size
        begun = times(amounts, count)
    return found


def merged(layers):
    """The layers without those that come 0 times, and with equal ones beside each other as one."""
    found = []
    for amounts, number in layers:
        if number == 0:
            continue
        if found and found[-1][0] == amounts:
            last = found.pop()[1]
            number = None if number is None else last + number
        found.append((amounts, number))
    return found


def _least_number(one, other):
    """The lesser one of two numbers, of which None is without end."""
    if one is None or other is None:
        return other if one is None else one
    return min(one, other)


def _put_back(layers, amounts, number, taken):
    """Put back what is left of a layer, if something is."""
    if number is None:
        layers.append((amounts, None))
    elif number > taken:
        layers.append((amounts, number - taken))
