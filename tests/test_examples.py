"""The examples of the document that the modules can run, as they stand there.

    >>> from asmany.books import Book
    >>> from asmany.parts import renamed_book
    >>> book = Book(("a", "b", "c"), ((0, 2, 1), (1, 0, 1)))
    >>> renamed_book(book, {"a": "x", "b": "y", "c": "b"}).ways
    ((1, 0, 2), (1, 1, 0))

    >>> from asmany.errors import InvalidText
    >>> from asmany.texts import read_book, show_book
    >>> show_book(read_book(" c,1 a\\nc , 2  b"))
    '2 b, c\\na, c'
    >>> try:
    ...     read_book("a, b\\nc\\na, 2 b")
    ... except InvalidText as error:
    ...     error.at
    2

    >>> from asmany.books import harm, is_harmless
    >>> is_harmless(((1, 0), (1, 1))), is_harmless(((1, 0), (0, 1), (1, 1)))
    (True, False)
    >>> harm(((1, 0), (0, 1), (1, 1)))
    (1, 1)

    >>> from asmany.parts import lacking, plenty
    >>> road = read_book("a, b\\nb, c\\nc, d")
    >>> show_book(lacking(road, ("a",))), show_book(plenty(road, ("a",)))
    ('c, d\\nb, c', 'c, d\\nb')

    >>> from asmany.books import Book
    >>> from asmany.rows import count_runs, longest_run, run_at, run_lengths, shortest_run, span, split_pools
    >>> star = Book(("a", "b", "c", "d"), ((0, 0, 1, 1), (0, 1, 0, 1), (1, 0, 0, 1), (1, 1, 1, 0)))
    >>> span(star), run_lengths(star, (1, 1, 1, 3))
    (3, (1, 3))
    >>> shortest_run(star, (1, 1, 1, 3)), longest_run(star, (1, 1, 1, 3))
    ((3,), (0, 1, 2))
    >>> count_runs(star, (1, 1, 1, 3)), run_at(star, (1, 1, 1, 3), 5)
    (7, (2, 1, 0))
    >>> split_pools(star)
    ((1, 1, 1, 2), (1, 1, 2, 1), (1, 2, 1, 1), (2, 1, 1, 1))

Where the document reads or shows formulas as texts, they stand here as tuples.

    >>> from asmany.layouts import count_ways, place_of_way, share, way_at, ways_of
    >>> formula = ("many", 60, ("or", tuple(("kind", name) for name in "abcdefgh")))
    >>> count_ways(formula), way_at(formula, 60), place_of_way(formula, (0, 0, 0, 0, 0, 1, 0, 59))
    (869648208, (0, 0, 0, 0, 0, 0, 60, 0), 61)
    >>> formula = ("and", (("kind", "a"), ("many", 2, ("or", (("kind", "b"), ("kind", "c"))))))
    >>> ways_of(formula), share(formula, (3, 1, 5)), share(formula, (3, 1, 4))
    (((1, 0, 2), (1, 1, 1), (1, 2, 0)), 3, None)

    >>> from asmany.cuts import formula_lacking, formula_plenty
    >>> formula = ("many", 2, ("or", (("kind", "a"), ("and", (("kind", "b"), ("kind", "c"))))))
    >>> formula_lacking(formula, ("c",))
    ('many', 2, ('kind', 'a'))
    >>> formula_plenty(formula, ("c",))
    ('many', 2, ('or', (('kind', 'a'), ('kind', 'b'))))

    >>> from asmany.mending import calming_lots, easing_lots
    >>> road = read_book("a, b\\nb, c\\nc, d")
    >>> calming_lots(road), easing_lots(road)
    ((('a',), ('b',), ('c',), ('d',)), (('b',), ('c',)))

Without its third way, the book of 4 of (a or b) is uneven.

    >>> from asmany.stories import first_story
    >>> first_story(Book(("a", "b"), ((0, 4), (1, 3), (3, 1), (4, 0)))) is None
    False
"""

import doctest
import sys
import unittest


class Examples(unittest.TestCase):

    def test_examples(self):
        result = doctest.testmod(sys.modules[__name__])
        self.assertEqual(result.failed, 0)
        self.assertGreater(result.attempted, 25)


if __name__ == "__main__":
    unittest.main()
