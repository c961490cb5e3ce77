"""Kinds that make stories, and kinds without or with plenty of which there are none."""

from asmany.basics import contains_one, items_of_mask, least_hitting, least_masks, lots_of_masks
from asmany.basics import mask_of, plus
from asmany.books import is_harmless, tidy_book
from asmany.errors import Refused
from asmany.parts import ways_beside
from asmany.stories import all_stories, first_story

MOST_MENDED_WAYS = 16


def story_kinds(book):
    """The least lots of all kinds that the three ways of a story use."""
    return lots_of_masks(book.kinds, _story_masks(book))


def calming_lots(book):
    """The least lots of kinds without which the other ways have no story."""
    return lots_of_masks(book.kinds, least_hitting(_story_masks(book), len(book.kinds)))


def easing_lots(book):
    """The least lots of kinds with plenty of which full runs have one length."""
    _check_ways(book)
    least = []
    # In this order each mask comes behind all those that it contains.
    for mask in range(1 << len(book.kinds)):
        if not contains_one(mask, least) and _eases(book, mask):
            least.append(mask)
    return lots_of_masks(book.kinds, least)


def _check_ways(book):
    """Refuse a book with too many ways."""
    if len(book.ways) > MOST_MENDED_WAYS:
        raise Refused("wide")


def _story_masks(book):
    """The least masks of the kinds of a story."""
    _check_ways(book)
    ways = book.ways
    return least_masks([mask_of(plus(plus(ways[s], ways[t]), ways[u])) for s, t, u in all_stories(book)])


def _eases(book, mask):
    """Whether always enough of the kinds of a mask leaves one length to full runs."""
    if contains_one(mask, [mask_of(way) for way in book.ways]):
        return False
    lot = items_of_mask(book.kinds, mask)
    ways = ways_beside(book, lot)
    kinds = tuple([kind for kind in book.kinds if kind not in lot])
    return is_harmless(ways) and first_story(tidy_book(kinds, ways)) is None
