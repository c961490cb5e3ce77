"""Sessions of a demand, and rounds of sessions."""

from asmany.basics import are_numbers, minus, smaller, within
from asmany.errors import InvalidRun
from asmany.runs import check_pool


def sessions_of(book, demand):
    """The lot of the sessions of a demand."""
    check_pool(book, demand)
    rows = [smaller(way, demand) for way in book.ways]
    return tuple([row for row in sorted(set(rows)) if is_session(book, demand, row)])


def unserved(book, demand, value):
    """What a round leaves of a demand."""
    check_pool(book, demand)
    if not isinstance(value, tuple):
        raise InvalidRun(-1)
    for at, item in enumerate(value):
        if not are_numbers(item, len(demand)) or not is_session(book, demand, item):
            raise InvalidRun(at)
        demand = minus(demand, item)
    return demand


def first_session(book, demand):
    """The first session of a demand, None if there is none."""
    for row in sorted(set([smaller(way, demand) for way in book.ways])):
        if is_session(book, demand, row):
            return row
    return None


def is_session(book, demand, amounts):
    """Whether amounts are a session: of the demand, no way that they are within takes more."""
    rows = [smaller(way, demand) for way in book.ways if within(amounts, way)]
    return max(amounts) > 0 and len(rows) > 0 and all([row == amounts for row in rows])
