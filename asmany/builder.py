"""The formula of a book."""

from asmany.layouts import count_ways, is_way
from asmany.tables import formula_of_table, most_of, pair_table


def built(book):
    """The normal formula whose ways are the ways of the book, None if there is none."""
    formula = formula_of_table(most_of(book), pair_table(book))
    if formula is None or count_ways(formula) != len(book.ways):
        return None
    return formula if all([is_way(formula, way) for way in book.ways]) else None
