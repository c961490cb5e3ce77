"""Bundles, and books with one way more or less."""

from asmany.basics import MOST_AMOUNT, MOST_KINDS, MOST_WAYS, is_ascending, is_name
from asmany.basics import is_number_to, within
from asmany.books import Book, tidy_book
from asmany.errors import InvalidNumber, Refused
from asmany.runs import is_way_number


def is_bundle(value):
    """Whether any value is a bundle."""
    if not isinstance(value, tuple) or len(value) == 0:
        return False
    return all([_is_pair(pair) for pair in value]) and is_ascending([pair[0] for pair in value])


def bundle_of(book, number):
    """The kinds that a way uses, with its amounts."""
    _check_number(book, number)
    return tuple([pair for pair in zip(book.kinds, book.ways[number]) if pair[1] > 0])


def book_with(book, bundle):
    """The book with the way of the bundle as a further one."""
    if not is_bundle(bundle):
        raise Refused("bundle")
    names = [name for name, amount in bundle]
    kinds = tuple(sorted(set([*book.kinds, *names])))
    further = _widened(kinds, names, [amount for name, amount in bundle])
    ways = [_widened(kinds, book.kinds, way) for way in book.ways]
    for way in ways:
        if within(further, way) or within(way, further):
            raise Refused("within")
    if len(kinds) > MOST_KINDS or len(ways) == MOST_WAYS:
        raise Refused("wide")
    return Book(kinds, tuple(sorted([*ways, further])))


def book_without(book, number):
    """The book of the other ways, on the kinds that these use."""
    _check_number(book, number)
    if len(book.ways) == 1:
        raise Refused("last")
    return tidy_book(book.kinds, book.ways[:number] + book.ways[number + 1:])


def _is_pair(value):
    """Whether any value is a pair of a name and an amount above 0."""
    if not isinstance(value, tuple) or len(value) != 2:
        return False
    return is_name(value[0]) and is_number_to(value[1], MOST_AMOUNT) and value[1] > 0


def _check_number(book, number):
    """Raise InvalidNumber unless some way has the number."""
    if not is_way_number(book, number):
        raise InvalidNumber("number")


def _widened(kinds, names, amounts):
    """The amounts in the order of the kinds, with 0 of those not named."""
    table = dict(zip(names, amounts))
    return tuple([table.get(kind, 0) for kind in kinds])
