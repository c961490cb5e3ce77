"""Worths of ways, which are level if all full runs have one total."""

from asmany.basics import greater, mask_of
from asmany.books import tidy_book
from asmany.builder import built
from asmany.errors import InvalidNumber, Refused
from asmany.pieces import pieces
from asmany.runs import check_pool, check_run
from asmany.stories import first_story, story_pool

MOST_WORTH = 10 ** 9


def blocks(book):
    """The blocks, ascending: the ways that hang together by common kinds."""
    lots = []
    for number, way in enumerate(book.ways):
        mask = mask_of(way)
        near = [lot for lot in lots if lot[0] & mask]
        lots = [lot for lot in lots if not lot[0] & mask]
        numbers = [number]
        for other, more in near:
            mask = mask | other
            numbers = [*more, *numbers]
        lots.append((mask, numbers))
    return tuple(sorted([tuple(sorted(numbers)) for _, numbers in lots]))


def worth_of_run(book, pool, run, worths):
    """The sum of the worths of the ways of a run."""
    check_run(book, pool, run)
    _check_worths(book, worths)
    return sum([worths[number] for number in run])


def is_level(book, worths):
    """Whether from each pool all full runs have one total."""
    _check_worths(book, worths)
    return are_level(book, worths)


def unlevel_runs(book, worths):
    """A pool and two full runs from it with different totals, None if the worths are level."""
    _check_worths(book, worths)
    for block in blocks(book):
        pair = _unlike_ways(book, block, worths)
        if pair is not None:
            # Of each one less is left than of itself, so that neither leaves room for a way.
            one, other = pair
            return greater(book.ways[one], book.ways[other]), (one,), (other,)
        if worths[block[0]] != 0:
            story = first_story(_book_of_block(book, block))
            if story is not None:
                s, t, u = [block[number] for number in story]
                return story_pool(book, (s, t, u)), (s,), (t, u)
    return None


def level_total(book, pool, worths):
    """The total of all full runs from a pool."""
    check_pool(book, pool)
    _check_worths(book, worths)
    if not are_level(book, worths):
        raise Refused("unlevel")
    total = 0
    for block in blocks(book):
        if worths[block[0]] != 0:
            part = _book_of_block(book, block)
            rest = tuple([amount for kind, amount in zip(book.kinds, pool) if kind in part.kinds])
            total = total + worths[block[0]] * pieces(built(part), rest)
    return total


def are_level(book, worths):
    """Whether worths, however large, are level."""
    for block in blocks(book):
        if any([worths[number] != worths[block[0]] for number in block]):
            return False
        if worths[block[0]] != 0 and built(_book_of_block(book, block)) is None:
            return False
    return True


def are_integers(value, count, most):
    """Whether any value is a tuple of exactly `count` integers from `-most` to `most`."""
    if not isinstance(value, tuple) or len(value) != count:
        return False
    return all([isinstance(item, int) and not isinstance(item, bool) and -most <= item <= most for item in value])


def _check_worths(book, worths):
    """Raise InvalidNumber unless there is a worth for each way."""
    if not are_integers(worths, len(book.ways), MOST_WORTH):
        raise InvalidNumber("worths")


def _book_of_block(book, block):
    """The book of the ways of a block, in their order."""
    return tidy_book(book.kinds, tuple([book.ways[number] for number in block]))


def _unlike_ways(book, block, worths):
    """Two ways of a block with a common kind and different worths, None if there are none."""
    masks = {number: mask_of(book.ways[number]) for number in block}
    for one in block:
        for other in block:
            if worths[one] != worths[other] and masks[one] & masks[other]:
                return one, other
    return None
