"""Even books from which ways are struck as long as they stay even, and paths between even books."""

from asmany.basics import MOST_KINDS
from asmany.books import Book
from asmany.builder import built
from asmany.edits import book_with, book_without, bundle_of
from asmany.formulas import normal
from asmany.neighbours import all_of, bundle_sum, formula_without, goings_of_two, is_single, joined
from asmany.neighbours import may_go, parts_of_and, single_bundle

LETTERS = "abcdefghijklmnopqrstuvwxyz"


def is_soft(formula):
    """Whether just one way is left when none may go."""
    return _core(normal(formula)) is None


def core_of(formula):
    """The formula of the ways that are left, None if it is soft."""
    core = _core(normal(formula))
    return None if core is None else normal(core)


def last_ways(formula):
    """The lot of the bundles that may be the one left."""
    formula = normal(formula)
    return () if _core(formula) is not None else tuple(sorted(_last_ways(formula)))


def strike_row(formula):
    """The bundles that are struck if each time the first one that may go is."""
    row = []
    bundles = may_go(formula)
    while bundles:
        row.append(bundles[0])
        formula = formula_without(formula, bundles[0])
        bundles = may_go(formula)
    return tuple(row)


def book_path(one, other):
    """Some path from a book to another one, None if there is none."""
    formula, goal = built(one), built(other)
    if formula is None or goal is None:
        return None
    if one == other:
        return (one,)
    if core_of(formula) != core_of(goal) or _is_full(one) or _is_full(other):
        return None
    rows = [_struck_books(one, formula), _struck_books(other, goal)]
    if rows[0][-1] != rows[1][-1]:
        # Two ways alone: each may stand beside a kind that neither uses, and that alone as well.
        free = _free_name([*rows[0][-1].kinds, *rows[1][-1].kinds])
        for row in rows:
            row.extend([book_with(row[-1], ((free, 1),)), Book((free,), ((1,),))])
    return (*rows[0], *rows[1][-2::-1])


def is_book_path(one, other, value):
    """Whether any value is a path from a book to another one."""
    if not isinstance(value, tuple) or len(value) == 0:
        return False
    if not all([isinstance(book, Book) for book in value]):
        return False
    if value[0] != one or value[-1] != other or any([built(book) is None for book in value]):
        return False
    bundles = [_bundles(book) for book in value]
    return all([_is_step(bundles[at], bundles[at + 1]) for at in range(len(value) - 1)])


def _core(formula):
    """The core of a normal formula, perhaps not in normal form; None if it is soft."""
    if is_single(formula) or formula[0] == "many" and goings_of_two(formula):
        return None
    if formula[0] == "many":
        return formula
    if formula[0] == "or":
        cores = [_core(part) for part in formula[1]]
        cores = [core for core in cores if core is not None]
        return joined("or", cores) if cores else None
    singles, wide = parts_of_and(formula)
    if len(wide) > 1:
        return formula
    core = _core(wide[0])
    return None if core is None else ("and", (all_of(singles), core))


def _last_ways(formula):
    """The bundles that may be the one left of a soft normal formula."""
    if is_single(formula):
        return [single_bundle(formula)]
    if formula[0] == "many":
        return [bundle_sum(single_bundle(part), single_bundle(part)) for part in formula[2][1]]
    if formula[0] == "or":
        return [bundle for part in formula[1] for bundle in _last_ways(part)]
    singles, wide = parts_of_and(formula)
    return [bundle_sum(singles, bundle) for bundle in _last_ways(wide[0])]


def _is_full(book):
    """Whether a book has one way alone, which uses all kinds that there may be."""
    return len(book.ways) == 1 and len(book.kinds) == MOST_KINDS


def _bundles(book):
    """The bundles of all ways."""
    return [bundle_of(book, number) for number in range(len(book.ways))]


def _struck_books(book, formula):
    """The books that come when the bundles of the row are struck, the first one before that."""
    books = [book]
    for bundle in strike_row(formula):
        books.append(book_without(books[-1], _bundles(books[-1]).index(bundle)))
    return books


def _free_name(names):
    """A name that is not among the names."""
    return [letter for letter in LETTERS if letter not in names][0]


def _is_step(bundles, others):
    """Whether just one bundle stands in one list and not in the other one."""
    more = [bundle for bundle in bundles if bundle not in others]
    return len([*more, *[bundle for bundle in others if bundle not in bundles]]) == 1
