"""Books with other names, and with nothing or always enough of some kinds."""

from asmany.basics import check_lot, is_name
from asmany.books import Book, tidy_book
from asmany.errors import Refused


def renamed_book(book, names):
    """The book in which each kind has its value in the dict `names` as its name."""
    if not all([kind in names and is_name(names[kind]) for kind in book.kinds]):
        raise Refused("names")
    renamed = [names[kind] for kind in book.kinds]
    if len(set(renamed)) < len(renamed):
        raise Refused("names")
    kinds = tuple(sorted(renamed))
    order = [renamed.index(kind) for kind in kinds]
    return Book(kinds, tuple(sorted([tuple([way[k] for k in order]) for way in book.ways])))


def lacking(book, lot):
    """The tidy book of the ways that use no kind of the lot."""
    check_lot(lot, book.kinds)
    taken = [k for k, kind in enumerate(book.kinds) if kind in lot]
    ways = [way for way in book.ways if not any([way[k] > 0 for k in taken])]
    if not ways:
        raise Refused("none")
    return tidy_book(book.kinds, tuple(ways))


def plenty(book, lot):
    """The tidy book of all ways without their amounts of the kinds of the lot."""
    check_lot(lot, book.kinds)
    kinds = tuple([kind for kind in book.kinds if kind not in lot])
    ways = ways_beside(book, lot)
    if not all([any([amount > 0 for amount in way]) for way in ways]):
        raise Refused("free")
    return tidy_book(kinds, ways)


def ways_beside(book, lot):
    """All ways without their amounts of the kinds of the lot, longer ones included."""
    others = [k for k, kind in enumerate(book.kinds) if kind not in lot]
    return tuple([tuple([way[k] for k in others]) for way in book.ways])
