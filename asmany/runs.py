"""Pools of a book, and runs from them."""

from asmany.basics import check_amounts, has_within, is_number, minus, within
from asmany.errors import InvalidRun


def check_pool(book, value):
    """Raise InvalidPool unless the value is a pool of the book."""
    check_amounts(value, len(book.kinds))


def fitting(book, pool):
    """The lot of the numbers of the ways that fit."""
    check_pool(book, pool)
    return tuple([number for number, way in enumerate(book.ways) if within(way, pool)])


def is_stuck(book, pool):
    """Whether no way fits."""
    check_pool(book, pool)
    return not has_within(book.ways, pool)


def check_run(book, pool, run):
    """Raise InvalidRun unless `run` is a run from the pool."""
    _rest_of(book, pool, run)


def left(book, pool, run):
    """The pool that a run leaves."""
    return _rest_of(book, pool, run)


def is_full(book, pool, run):
    """Whether a run leaves a stuck pool."""
    return not has_within(book.ways, _rest_of(book, pool, run))


def is_way_number(book, value):
    """Whether any value is the number of a way."""
    return is_number(value) and value < len(book.ways)


def _rest_of(book, pool, run):
    """What a run leaves of a pool, when both are checked."""
    check_pool(book, pool)
    if not isinstance(run, tuple):
        raise InvalidRun(-1)
    for at, number in enumerate(run):
        if not is_way_number(book, number) or not within(book.ways[number], pool):
            raise InvalidRun(at)
        pool = minus(pool, book.ways[number])
    return pool
