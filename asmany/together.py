"""Books put together, and pools by which books are told apart."""

from asmany.basics import MOST_AMOUNT, MOST_KINDS, MOST_WAYS, check_kind, has_within, is_number_to
from asmany.books import Book, tidy_book
from asmany.errors import InvalidNumber, Refused
from asmany.formulas import kinds_of, sizes_of
from asmany.layers import times
from asmany.packs import guarded, packed, unpacked
from asmany.sums import count_sums, sums_within


def joined_by_and(book, other):
    """The book of all sums of a way of each of two books."""
    _check_apart(book.kinds, other.kinds)
    _check_wide(len(book.kinds) + len(other.kinds), len(book.ways) * len(other.ways))
    kinds = book.kinds + other.kinds
    return _ordered_book(kinds, [one + two for one in book.ways for two in other.ways])


def joined_by_or(book, other):
    """The book of the ways of two books."""
    _check_apart(book.kinds, other.kinds)
    _check_wide(len(book.kinds) + len(other.kinds), len(book.ways) + len(other.ways))
    kinds = book.kinds + other.kinds
    ways = [way + (0,) * len(other.kinds) for way in book.ways]
    return _ordered_book(kinds, [*ways, *[(0,) * len(book.kinds) + way for way in other.ways]])


def so_many(book, number):
    """The tidy book of all sums of so many ways."""
    if not is_number_to(number, MOST_AMOUNT) or number == 0:
        raise InvalidNumber("number")
    ways = [packed(way) for way in book.ways]
    guard = guarded((0,) * len(book.kinds))
    sums = ways
    for _ in range(number - 1):
        # A least sum of one way more comes from a least one.
        sums = _least_packed([one + other for one in sums for other in ways], guard)
        if max([max(unpacked(one, len(book.kinds))) for one in sums]) > MOST_AMOUNT:
            raise Refused("wide")
    return tidy_book(book.kinds, tuple([unpacked(one, len(book.kinds)) for one in sums]))


def put_in(book, kind, formula):
    """The book in which sums of ways of a formula stand in the place of amounts of a kind."""
    check_kind(kind, book.kinds)
    at = book.kinds.index(kind)
    others = book.kinds[:at] + book.kinds[at + 1:]
    _check_apart(others, kinds_of(formula))
    amounts = [way[at] for way in book.ways]
    sizes = list(sizes_of(formula).values())
    if max(amounts) * max(sizes) > MOST_AMOUNT:
        raise Refused("wide")
    counts = count_sums(formula, max(amounts), {})
    _check_wide(len(others) + len(sizes), sum([counts[amount] for amount in amounts]))
    ways = []
    for way in book.ways:
        rest = way[:at] + way[at + 1:]
        ways.extend([rest + one for one in sums_within(formula, way[at], times(sizes, way[at]))])
    return _ordered_book(others + kinds_of(formula), ways)


def telling_pool(book, other):
    """Some pool from which a way of just one of two books fits, None if they are equal."""
    if book.kinds != other.kinds:
        raise Refused("kinds")
    for one, two in ((book, other), (other, book)):
        for way in one.ways:
            if not has_within(two.ways, way):
                return way
    # Each way has one of the other book within it, and that one a way of the first: itself.
    return None


def _check_apart(kinds, others):
    """Refuse kinds of which one is among the others."""
    if any([kind in others for kind in kinds]):
        raise Refused("kinds")


def _check_wide(kinds, ways):
    """Refuse so many kinds or so many ways if they are too many."""
    if kinds > MOST_KINDS or ways > MOST_WAYS:
        raise Refused("wide")


def _ordered_book(kinds, ways):
    """The book of the ways, with the kinds in their order."""
    order = [kinds.index(kind) for kind in sorted(kinds)]
    return Book(tuple(sorted(kinds)), tuple(sorted([tuple([way[k] for k in order]) for way in ways])))


def _least_packed(sums, guard):
    """The least ones of some packed amounts, ascending; too many are refused."""
    least = []
    # Amounts within others come before them in this order.
    for whole in sorted(set(sums)):
        if not _has_packed_within(least, whole | guard, guard):
            if len(least) == MOST_WAYS:
                raise Refused("wide")
            least.append(whole)
    return least


def _has_packed_within(least, room, guard):
    """Whether some packed amounts are within those of an integer with guards."""
    for one in least:
        if room - one & guard == guard:
            return True
    return False
