"""Bars: lots of kinds of which each way uses one."""

from asmany.basics import check_lot, contains_one, hits_all, least_hitting, least_masks
from asmany.basics import lots_of_masks, mask_of
from asmany.errors import Refused
from asmany.runs import check_pool


def is_bar(book, lot):
    """Whether each way uses at least one kind of the lot."""
    return hits_all(_checked_mask(book, lot), _support_masks(book))


def bars(book):
    """The least bars, ascending."""
    return lots_of_masks(book.kinds, least_hitting(_support_masks(book), len(book.kinds)))


def bar_within(book, lot):
    """The first least bar that has only kinds of the lot, None if there is none."""
    mask = _checked_mask(book, lot)
    for bar in bars(book):
        if contains_one(mask, [_mask_of_lot(book, bar)]):
            return bar
    return None


def short_bar(book, pool):
    """The first least bar all of whose kinds are short, None if there is none."""
    check_pool(book, pool)
    greatest = [max([way[k] for way in book.ways]) for k in range(len(pool))]
    return bar_within(book, tuple([
        kind for kind, amount, most in zip(book.kinds, pool, greatest) if amount < most
    ]))


def lone_ways(book, bar):
    """For each kind of the bar the ways that use no other kind of the bar."""
    check_bar(book, bar)
    mask = _mask_of_lot(book, bar)
    supported = _support_masks(book)
    table = {}
    for kind in bar:
        alone = _mask_of_lot(book, (kind,))
        table[kind] = tuple([at for at, one in enumerate(supported) if one & mask == alone])
    return table


def supports(book):
    """Those supports that do not have all kinds of another one, ascending."""
    return lots_of_masks(book.kinds, least_masks(_support_masks(book)))


def check_bar(book, bar):
    """Refuse any value that is no bar."""
    if not is_bar(book, bar):
        raise Refused("bar")


def _support_masks(book):
    """For each way the kinds that it uses, one bit for each."""
    return [mask_of(way) for way in book.ways]


def _checked_mask(book, lot):
    """The mask of a lot of kinds; any other value is refused."""
    check_lot(lot, book.kinds)
    return _mask_of_lot(book, lot)


def _mask_of_lot(book, lot):
    """The mask of a lot of kinds."""
    return mask_of([1 if kind in lot else 0 for kind in book.kinds])
