"""The examples of the document, as they stand there, one behind the other.

    >>> from asmany.texts import read_book
    >>> from asmany.court import court
    >>> from asmany.shows import show_formula
    >>> show_formula(court(read_book("a, b\\na, c")).formula)
    'a and (b or c)'
    >>> court(read_book("a, b\\nb, c\\nc, d")).__class__.__name__
    'Told'

[6]

    >>> from asmany.books import Book
    >>> from asmany.parts import renamed_book
    >>> book = Book(("a", "b", "c"), ((0, 2, 1), (1, 0, 1)))
    >>> renamed_book(book, {"a": "x", "b": "y", "c": "b"}).ways
    ((1, 0, 2), (1, 1, 0))

[7]

    >>> from asmany.errors import InvalidText
    >>> from asmany.texts import read_book, show_book
    >>> show_book(read_book(" c,1 a\\nc , 2  b"))
    '2 b, c\\na, c'
    >>> try:
    ...     read_book("a, b\\nc\\na, 2 b")
    ... except InvalidText as error:
    ...     error.at
    2

[9]

    >>> from asmany.books import harm, is_harmless
    >>> is_harmless(((1, 0), (1, 1))), is_harmless(((1, 0), (0, 1), (1, 1)))
    (True, False)
    >>> harm(((1, 0), (0, 1), (1, 1)))
    (1, 1)

[10]

    >>> from asmany.parts import lacking, plenty
    >>> road = read_book("a, b\\nb, c\\nc, d")
    >>> show_book(lacking(road, ("a",))), show_book(plenty(road, ("a",)))
    ('c, d\\nb, c', 'c, d\\nb')

[13]

    >>> from asmany.books import Book
    >>> from asmany.rows import count_runs, longest_run, run_at, run_lengths, shortest_run, span, split_pools
    >>> star = Book(("a", "b", "c", "d"), ((0, 0, 1, 1), (0, 1, 0, 1), (1, 0, 0, 1), (1, 1, 1, 0)))
    >>> span(star), run_lengths(star, (1, 1, 1, 3))
    (3, (1, 3))

[15]

    >>> shortest_run(star, (1, 1, 1, 3)), longest_run(star, (1, 1, 1, 3))
    ((3,), (0, 1, 2))
    >>> count_runs(star, (1, 1, 1, 3)), run_at(star, (1, 1, 1, 3), 5)
    (7, (2, 1, 0))

[16]

    >>> split_pools(star)
    ((1, 1, 1, 2), (1, 1, 2, 1), (1, 2, 1, 1), (2, 1, 1, 1))

[19]

    >>> from asmany.layouts import count_ways, place_of_way, share, way_at, ways_of
    >>> from asmany.shows import read_formula, show_formula
    >>> formula = read_formula("60 of (a or b or c or d or e or f or g or h)")
    >>> count_ways(formula), way_at(formula, 60), place_of_way(formula, (0, 0, 0, 0, 0, 1, 0, 59))
    (869648208, (0, 0, 0, 0, 0, 0, 60, 0), 61)

[20]

    >>> formula = read_formula("a and 2 of (b or c)")
    >>> ways_of(formula), share(formula, (3, 1, 5)), share(formula, (3, 1, 4))
    (((1, 0, 2), (1, 1, 1), (1, 2, 0)), 3, None)

[22]

    >>> from asmany.formulas import normal
    >>> show_formula(normal(read_formula("2 of (c and 3 of (b or a) and (d and 2 of e))")))
    '6 of (a or b) and 2 of c and 2 of d and 4 of e'

[23]

    >>> show_formula(("and", (("kind", "or"), ("many", 2, ("many", 3, ("kind", "of"))))))
    'or and 2 of 3 of of'

[29]

    >>> from asmany.tables import formula_of_table, most_of, pair_table
    >>> from asmany.texts import read_book
    >>> ring = read_book("a, b\\nb, c\\na, c")
    >>> formula_of_table(most_of(ring), pair_table(ring)) == ("and", (("kind", "a"), ("kind", "b"), ("kind", "c")))
    True
    >>> from asmany.court import court
    >>> court(ring).story
    (0, 1, 2)

[30]

    >>> from asmany.cuts import formula_lacking, formula_plenty
    >>> from asmany.shows import read_formula, show_formula
    >>> formula = read_formula("2 of (a or (b and c))")
    >>> show_formula(formula_lacking(formula, ("c",))), show_formula(formula_plenty(formula, ("c",)))
    ('2 of a', '2 of (a or b)')

[32]

    >>> from asmany.pieces import pieces
    >>> from asmany.shows import read_formula
    >>> from asmany.sides import all_sides, tight_sides
    >>> formula = read_formula("2 of (a or (b and c))")
    >>> pieces(formula, (1, 0, 1)), all_sides(formula), tight_sides(formula, (1, 0, 1))
    (0, (('a', 'b'), ('a', 'c')), (('a', 'b'),))

[33]

    >>> from asmany.pieces import needed, pieces_with_plenty, short_kinds
    >>> needed(formula, (1, 0, 1), "a", 1), needed(formula, (1, 0, 1), "c", 1), short_kinds(formula, (1, 0, 1))
    (2, None, ('a', 'b'))

[35]

    >>> from asmany.plans import least_pools, plan_for
    >>> least_pools(formula, 1), plan_for(formula, (10 ** 18, 0, 5), 10 ** 17)
    (((0, 2, 2), (1, 1, 1), (2, 0, 0)), (((2, 0, 0), 100000000000000000),))

[36]

    >>> from asmany.buying import cheapest, most_for, price_steps
    >>> price_steps(formula, (1, 0, 1), (5, 2, 2)), cheapest(formula, (1, 0, 1), (5, 2, 2), 2)
    (((2, 1), (8, None)), (0, 3, 2))

[39]

    >>> from asmany.rounds import round_lengths
    >>> from asmany.mirrors import all_session_stories
    >>> from asmany.texts import read_book
    >>> road = read_book("a, b\\nb, c\\nc, d")
    >>> round_lengths(road, (1, 1, 1, 1)), all_session_stories(road)
    ((2, 3), ((1, 0, 2),))

[43]

    >>> from asmany.served import all_served
    >>> from asmany.shows import read_formula
    >>> formula = read_formula("2 of (a or (b and c))")
    >>> all_served(formula, (1, 2, 4)), all_served(formula, (1, 2, 4), many=2)
    (((0, 2, 2), (1, 1, 1)), ((0, 2, 4), (1, 2, 3)))

[45]

    >>> from asmany.shops import Shop, replay
    >>> from asmany.shows import read_formula
    >>> formula = read_formula("a and 2 of (b or c)")
    >>> shop = replay(formula, (("come", (2, 3, 0)), ("make", (1, 2, 0), 5), ("come", (1, 0, 3))))
    >>> shop.pool(), shop.made_by(), shop.still()
    ((2, 1, 3), {5: 1}, 2)

[46]

    >>> from asmany.moments import backlog, missing
    >>> backlog(formula, ((2, 3, 0), (1, 0, 3)), (2, 1)), missing(formula, ((2, 3, 0), (1, 0, 3)), (2, 1), "b")
    ((1, 0), 1)

[47]

    >>> from asmany.turns import good_turn, last_hand
    >>> last_hand(formula, (3, 3, 3), 2), good_turn(((formula, (3, 3, 3)), (formula, (1, 9, 9))), 2)
    (0, (0, 2))

[48]

    >>> from asmany.hands import hand_limits, share_pool
    >>> hand_limits(formula, (3, 3, 1), ("a", "b"), ("a", "c"))
    (1, 0, 1)
    >>> share_pool(formula, (2, 2, 2), ("a", "b"), ("a", "c"), 1, 1)
    ((1, 2, 0), (1, 0, 2))

[50]

    >>> from asmany.left import can_be_left, count_left, is_used_up, left_pools
    >>> from asmany.shows import read_formula
    >>> formula = read_formula("a and (b or 2 of c)")
    >>> left_pools(formula, (1, 1, 3)), count_left(formula, (5, 3, 9))
    (((0, 0, 3), (0, 1, 1)), 3)
    >>> can_be_left(formula, (1, 1, 3), (0, 1, 3)), is_used_up(formula, (2, 1, 2)), is_used_up(formula, (2, 1, 3))
    (False, True, False)

[52]

    >>> from asmany.used import cheapest_left, dearest_left, is_left_sure, left_bounds, unsure_pool
    >>> left_bounds(formula, (1, 1, 3)), left_bounds(formula, (10 ** 18, 5, 8))
    (((0, 0), (0, 1), (1, 3)), ((999999999999999991, 999999999999999991), (0, 0), (0, 0)))
    >>> cheapest_left(formula, (1, 1, 3), (0, 1, 1)), dearest_left(formula, (1, 1, 3), (0, 1, 1))
    ((0, 1, 1), (0, 0, 3))

[53]

    >>> is_left_sure(formula, unsure_pool(formula)), unsure_pool(read_formula("2 of a or (b and 3 of c)"))
    (False, None)

[60]

    >>> from asmany.bars import bars
    >>> from asmany.haste import haste, is_best
    >>> from asmany.prices import mix_pool
    >>> from asmany.steady import steady_bounds, steady_prices
    >>> mix = ((0, 0, 0, 1), (1, 1, 1, 0))
    >>> is_best(star, ("a", "b", "c"), (1, 1, 1, 0), mix), mix_pool(star, ("a", "b", "c"), mix)
    (True, (1, 1, 1, 3))
    >>> bars(star), haste(star)
    ((('a', 'b', 'c'), ('a', 'd'), ('b', 'd'), ('c', 'd')), (3, 1))
    >>> three = read_book("3 a\\n2 a, b\\n3 b")
    >>> haste(three), steady_prices(three, ("a", "b")), steady_bounds(three, (3, 3))
    ((1, 1), (1, 1), (1, 2))

[63]

    >>> from asmany.crossings import crossing
    >>> from asmany.nets import Net, net_formula
    >>> from asmany.shows import show_formula
    >>> bridge = Net((("a", 0, 1), ("b", 0, 2), ("c", 1, 2), ("d", 1, 3), ("e", 2, 3)), 0, 3)
    >>> net_formula(bridge), crossing(bridge) is None
    (None, False)
    >>> show_formula(net_formula(Net((("a", 0, 1), ("b", 2, 1), ("c", 2, 0), ("d", 4, 0)), 0, 2)))
    '(a and b) or c'

[66]

    >>> from asmany.pairs import closed_web, open_walk, web_formula
    >>> open_walk((("a", "b"), ("b", "c"), ("c", "d"))), closed_web((("a", "b"), ("b", "c"), ("c", "d")))
    (('a', 'b', 'c', 'd'), (('a', 'b'), ('a', 'd'), ('b', 'c'), ('c', 'd')))
    >>> open_walk((("a", "b"), ("a", "c"), ("b", "c"))), show_formula(web_formula((("a", "b"), ("b", "c"))))
    (('a', 'b', 'c', 'a'), '(a or c) and b')

[74]

    >>> from asmany.texts import read_book
    >>> from asmany.worths import blocks, is_level, level_total
    >>> book = read_book("a, b\\na, c\\nd, e\\ne, f\\nf, g")
    >>> blocks(book), is_level(book, (0, 0, 0, 5, 5)), is_level(book, (1, 1, 1, 5, 5))
    (((0, 1, 2), (3, 4)), True, False)
    >>> level_total(book, (3, 1, 1, 0, 0, 9, 9), (0, 0, 0, 5, 5))
    10

[75]

    >>> from asmany.fair import piece_worths, worth_steps
    >>> from asmany.shows import read_formula
    >>> formula = read_formula("a and (2 of b or 3 of c)")
    >>> worth_steps(formula), piece_worths(formula, (4, 3, 2)), piece_worths(formula, (4, 3, 3))
    ((1,), (10,), None)

[76]

    >>> from asmany.mending import calming_lots, easing_lots
    >>> road = read_book("a, b\\nb, c\\nc, d")
    >>> calming_lots(road), easing_lots(road)
    ((('a',), ('b',), ('c',), ('d',)), (('b',), ('c',)))

[77]

    >>> from asmany.striking import Strikes, all_fewest_strikes, is_strikes
    >>> all_fewest_strikes(road), is_strikes(road, Strikes((0,), ((1, 0, 2), ())))
    (((0,), (1,), (2,)), True)

[79]

    >>> from asmany.books import Book
    >>> from asmany.rows import run_lengths
    >>> from asmany.texts import read_book, show_book
    >>> from asmany.together import joined_by_and, joined_by_or, put_in, so_many, telling_pool
    >>> road, lamp = read_book("a, b\\nb, c\\nc, d"), read_book("l")
    >>> run_lengths(joined_by_or(road, lamp), (1, 1, 1, 1, 3)), run_lengths(joined_by_and(road, lamp), (1, 1, 1, 1, 1))
    ((4, 5), (1,))

[80]

    >>> gap = Book(("a", "b"), ((0, 4), (1, 3), (3, 1), (4, 0)))
    >>> len(so_many(gap, 2).ways), run_lengths(gap, (5, 3)), run_lengths(so_many(gap, 2), (5, 3))
    (9, (1, 2), (1,))

[81]

    >>> from asmany.shows import read_formula
    >>> show_book(put_in(read_book("2 a, b\\na, c"), "a", read_formula("d or 2 of e")))
    'c, 2 e\\nc, d\\nb, 4 e\\nb, d, 2 e\\nb, 2 d'

[84]

    >>> from asmany.asked import Asker
    >>> from asmany.pieces import pieces
    >>> from asmany.shows import show_formula
    >>> hidden, asker = read_formula("3 of (a or 2 of b) and c"), Asker(("a", "b", "c"))
    >>> while asker.wanted is not None:
    ...     asker.tell(pieces(hidden, asker.wanted))
    >>> show_formula(asker.found), len(asker.answers) <= 36
    ('3 of (a or 2 of b) and c', True)

[86]

    >>> from asmany.neighbours import formula_with, may_come, may_go, stems
    >>> from asmany.shows import read_formula, show_formula
    >>> formula = read_formula("d and (c or 2 of (a or b))")
    >>> may_go(formula), stems(formula)
    (((('a', 1), ('b', 1), ('d', 1)), (('c', 1), ('d', 1))), ((), (('d', 1),)))
    >>> may_come(read_formula("4 of a or 2 of b")), show_formula(formula_with(formula, (("d", 1), ("e", 7))))
    (((('a', 2), ('b', 1)),), '(2 of (a or b) or c or 7 of e) and d')

[87]

    >>> from asmany.cores import core_of, last_ways, strike_row
    >>> show_formula(core_of(read_formula("e and (f or ((a or b) and (c or d)))")))
    '(a or b) and (c or d) and e'
    >>> strike_row(read_formula("2 of (a or b)")), last_ways(read_formula("2 of (a or b)"))
    (((('a', 1), ('b', 1)), (('a', 2),)), ((('a', 2),), (('b', 2),)))

[80] Without its third way, the book of 4 of (a or b) is uneven.

    >>> from asmany.stories import first_story
    >>> first_story(gap) is None
    False
"""

import doctest
import sys
import unittest


class Examples(unittest.TestCase):

    def test_examples(self):
        result = doctest.testmod(sys.modules[__name__])
        self.assertEqual(result.failed, 0)
        self.assertGreater(result.attempted, 140)


if __name__ == "__main__":
    unittest.main()
