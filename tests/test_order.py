"""[4] Errors come in the order in which they are listed, whatever else is wrong."""

import importlib
import unittest

from asmany.boats import Boat
from asmany.books import Book
from asmany.clashes import Clashes
from asmany.errors import InvalidBook, InvalidNumber, InvalidPool, InvalidRun, Refused
from asmany.layouts import book_of
from asmany.nets import Net
from asmany.shows import read_formula
from plain import Case
from test_calls import chosen, objects
from test_interface import INTERFACE, METHODS

STAR = Book(("a", "b", "c", "d"), ((0, 0, 1, 1), (0, 1, 0, 1), (1, 0, 0, 1), (1, 1, 1, 0)))
SIXTY = read_formula("60 of (a or b or c or d or e or f or g or h)")
ELEVEN = book_of(read_formula("10 of (a or b)"))
PATH = Clashes(4, ((0, 1), (1, 2), (2, 3)))
GREAT = 10 ** 18

POOL = ({"pool": None}, InvalidPool, -1)
DEMAND = ({"demand": (0, 0, 0, True)}, InvalidPool, 3)
DEMAND_OF = ({"demand": (0, 0, True)}, InvalidPool, 2)
LOT = ({"lot": ["a"]}, Refused, "lot")
BAR = ({"bar": ("b", "a")}, Refused, "lot")
NO_BAR = ({"bar": ("a",)}, Refused, "bar")
MOST = ({"most": 0}, InvalidNumber, "most")
WIDE = ({"most": 1}, Refused, "wide")
PRICES = ({"prices": (1, 1, None)}, InvalidNumber, "prices")
SIDE = ({"side": ("a",)}, Refused, "side")


def number(word, value=-1):
    return {word: value}, InvalidNumber, word


# For each function or method what may be wrong, in the order in which it must be told.
ORDER = {
    "run_lengths": (POOL, MOST, WIDE),
    "run_of_length": (POOL, number("length"), MOST, WIDE),
    "shortest_run": (POOL, MOST, WIDE),
    "longest_run": (POOL, MOST, WIDE),
    "count_runs": (POOL, MOST, WIDE),
    "run_at": (POOL, number("number"), MOST, WIDE, number("number", 3)),
    "place_of_run": (POOL, ({"run": (0, 0)}, InvalidRun, 1), MOST, WIDE),
    "check_run": (POOL, ({"run": None}, InvalidRun, -1)),
    "left": (POOL, ({"run": None}, InvalidRun, -1)),
    "is_full": (POOL, ({"run": (0, True)}, InvalidRun, 1)),
    "partner": (number("way", 3), number("one", True), number("other", None), ({"way": 0, "one": 2, "other": 2}, Refused, "apart")),
    "unpaired_story": (number("way", 3), number("one"), number("other"), ({"way": 0, "one": 2, "other": 2}, Refused, "apart")),
    "story_between": (POOL, ({"run": (0, 0)}, InvalidRun, 1), ({"other": None}, InvalidRun, -1), ({"run": (0,)}, Refused, "open"),
                      ({"other": (2, 0)}, Refused, "alike")),
    "ways_of": (MOST, ({"most": 1, "formula": SIXTY}, Refused, "wide")),
    "needed": (POOL, ({"kind": None}, Refused, "kind"), number("many")),
    "pieces_with_plenty": (POOL, LOT),
    "side_pieces": (POOL, SIDE),
    "least_pools": (number("many", 21), MOST, WIDE),
    "plan_for": (POOL, number("many", None)),
    "price_steps": (POOL, PRICES),
    "price_for": (POOL, PRICES, number("many")),
    "cheapest": (POOL, PRICES, number("many", None)),
    "most_for": (POOL, PRICES, number("budget")),
    "unserved": (DEMAND, ({"value": None}, InvalidRun, -1)),
    "round_lengths": (DEMAND, MOST, WIDE),
    "count_rounds": (DEMAND, MOST, WIDE),
    "round_of_length": (DEMAND, number("length", True), MOST, WIDE),
    "mirror_fault": (number("one", 3), number("other", 3)),
    "side_sessions": (DEMAND_OF, SIDE),
    "count_served": (DEMAND_OF, number("many", 21)),
    "all_served": (DEMAND_OF, number("many", 21), MOST, WIDE),
    "is_served_by": (DEMAND_OF, number("many", True)),
    "last_hand": (POOL, number("hands", 0), number("first", 2)),
    "turn_value": (({"shops": ((SIXTY, None),)}, InvalidPool, -1), number("most", 0)),
    "good_turn": (({"shops": ((SIXTY, (1,) * 7 + (None,)),)}, InvalidPool, 7), number("most", 0)),
    "backlog": (({"comings": None}, InvalidRun, -1), ({"orders": (1,)}, InvalidNumber, "orders")),
    "missing": (({"comings": ((1, 1, 1), None)}, InvalidRun, 1), ({"orders": (1,)}, InvalidNumber, "orders"),
                ({"kind": "z"}, Refused, "kind")),
    "hand_limits": (POOL, LOT, ({"other": None}, Refused, "other")),
    "share_pool": (POOL, LOT, ({"other": None}, Refused, "other"), number("many"), number("rest")),
    "left_pools": (POOL, MOST, ({"pool": (1002, 0, 1002), "most": 100000}, Refused, "wide")),
    "count_left": (POOL, ({"pool": (1002, 0, 1002)}, Refused, "wide")),
    "can_be_left": (POOL,),
    "cheapest_left": (POOL, PRICES),
    "dearest_left": (POOL, PRICES),
    "lone_ways": (BAR, NO_BAR),
    "are_prices": (BAR, NO_BAR),
    "is_mix": (BAR, NO_BAR),
    "mix_pool": (BAR, NO_BAR, ({"mix": None}, InvalidNumber, "mix"), ({"mix": ((0, GREAT, 1), (1, 0, 1))}, Refused, "great")),
    "bar_haste": (BAR, NO_BAR),
    "best_prices": (BAR, NO_BAR),
    "best_mix": (BAR, NO_BAR),
    "is_best": (BAR, NO_BAR),
    "price_limit": (({"prices": (0, 0, 0, 0)}, InvalidNumber, "prices"), POOL),
    "longest_bound": (({"table": {}}, Refused, "table"), number("length", GREAT + 1)),
    "sure_length": (({"table": {}}, Refused, "table"), number("length", GREAT + 1)),
    "steady_prices": (BAR, NO_BAR, ({"bar": ("a", "b", "c")}, Refused, "least")),
    "steady_bounds": (POOL, ({"book": STAR, "pool": (0, 0, 0, 0)}, Refused, "unsteady")),
    "trips": (({"crowd": None}, InvalidPool, -1), ({"boat": Boat(("a", "b"), (2, 3), 7)}, Refused, "uneven")),
    "spare": (({"crowd": None}, InvalidPool, -1), ({"boat": Boat(("a", "b"), (2, 3), 7)}, Refused, "uneven")),
    "even_rooms": (({"sizes": (0,)}, Refused, "sizes"), number("most", 10001)),
    "last_even_room": (({"sizes": [2, 3]}, Refused, "sizes"), ({"sizes": (2, 4)}, Refused, "endless")),
    "is_prompt": (({"lengths": (1, 1)}, InvalidNumber, "lengths"),),
    "prompt_starts": (({"lengths": (1, 1)}, InvalidNumber, "lengths"), ({"order": (0, 1, 1)}, Refused, "order")),
    "prompt_ends": (({"lengths": (1, 1)}, InvalidNumber, "lengths"),
                    ({"clashes": Clashes(9, ()), "lengths": (1,) * 9}, Refused, "wide")),
    "remaining": (({"lengths": None}, InvalidNumber, "lengths"), ({"starts": (1, 0, 0)}, Refused, "starts"), number("moment")),
    "sure_end": (({"lengths": None}, InvalidNumber, "lengths"), ({"clashes": PATH, "lengths": (1,) * 4}, Refused, "row")),
    "heaviest_lot": (({"lengths": (1,)}, InvalidNumber, "lengths"), ({"clashes": PATH, "lengths": (1,) * 4}, Refused, "row")),
    "latest_starts": (({"lengths": [1] * 4}, InvalidNumber, "lengths"), ({"clashes": PATH, "lengths": (1,) * 4}, Refused, "row")),
    "clash_book": (({"clashes": Clashes(9, ())}, Refused, "wide"), ({"names": None, "clashes": Clashes(3, ())}, Refused, "names")),
    "clash_formula": (({"clashes": Clashes(9, ())}, Refused, "wide"), ({"names": None, "clashes": Clashes(3, ())}, Refused, "names")),
    "worth_of_run": (POOL, ({"run": (0, 0)}, InvalidRun, 1), ({"worths": (0, 0)}, InvalidNumber, "worths")),
    "level_total": (POOL, ({"worths": (0, True, 0)}, InvalidNumber, "worths"), ({"worths": (1, 0, 0)}, Refused, "unlevel")),
    "fair_prices": (({"worths": (4, 4)}, InvalidNumber, "worths"), ({"worths": (3,)}, Refused, "step")),
    "joined_by_and": (({"other": book_of(read_formula("a or e or f or g or h"))}, Refused, "kinds"),
                      ({"other": book_of(read_formula("e or f or g or h or i"))}, Refused, "wide")),
    "joined_by_or": (({"other": book_of(read_formula("a or e or f or g or h"))}, Refused, "kinds"),
                     ({"other": book_of(read_formula("e or f or g or h or i"))}, Refused, "wide")),
    "so_many": (number("number", 61), ({"number": 60}, Refused, "wide")),
    "put_in": (({"kind": None}, Refused, "kind"), ({"formula": SIXTY}, Refused, "kinds"),
               ({"formula": ("many", 60, ("or", (("kind", "x"), ("kind", "y"), ("kind", "z"))))}, Refused, "wide")),
    "book_with": (({"bundle": None}, Refused, "bundle"), ({"bundle": (("a", 1), ("b", 1))}, Refused, "within"),
                  ({"bundle": tuple((name, 1) for name in "efghi")}, Refused, "wide")),
    "book_without": (number("number", 3), ({"book": Book(("a",), ((1,),))}, Refused, "last")),
    "is_strikes": (({"book": ELEVEN}, Refused, "wide"),),
}

OF_METHODS = {
    ("Shop", "come"): (({"amounts": (1, 1)}, InvalidPool, -1), ({"amounts": (0, 0, GREAT)}, Refused, "much")),
    ("Shop", "make"): (({"way": (1, 0, 1)}, Refused, "way"), number("hand"), ({"way": (0, 2, 0)}, Refused, "short")),
    ("Live", "bring"): (({"name": ""}, Refused, "name"), number("amount", GREAT)),
    ("Live", "take"): (number("number", 2), ({"number": 1}, Refused, "short")),
    ("Live", "put"): (({"bundle": None}, Refused, "bundle"), ({"bundle": (("a", 1),)}, Refused, "within")),
    ("Live", "strike"): (number("number", 2),),
    ("Asker", "tell"): (number("number"),),
}

CLASSES = (
    (Boat, (None, None, None), Refused, "kinds"), (Boat, (("b", "a"), None, 0), Refused, "kinds"),
    (Boat, (("a",), None, 0), InvalidNumber, "room"), (Boat, (("a",), (6,), 5), Refused, "sizes"),
    (Clashes, (0, None), InvalidNumber, "jobs"), (Clashes, (61, ()), InvalidNumber, "jobs"), (Clashes, (2, ((1, 0),)), Refused, "pairs"),
    (Net, ((("a", 0, 1), None), 0, 0), InvalidBook, -1), (Net, ((("a", 0, 1), None), 0, 1), InvalidBook, 1),
    (Book, (None, None), InvalidBook, -1), (Book, (("a",), None), InvalidBook, -1), (Book, (("a", "b"), ((1, 0), None)), InvalidBook, 1),
    (Book, (("a", "b"), ((1, 0),)), InvalidBook, 1), (Book, (("a", "b"), ()), InvalidBook, 0),
)


class Order(Case):

    def function(self, name):
        for word, told in INTERFACE.items():
            if name in told:
                return getattr(importlib.import_module("asmany." + word), name)
        raise AssertionError(name)

    def check(self, call, given, rows):
        """Each error is told though all that is checked later is wrong, too."""
        for at, (_, error, told) in enumerate(rows):
            wrong = dict(given)
            for values, _, _ in reversed(rows[at:]):
                wrong.update(values)
            self.fault(error, told, call, **wrong)

    def test_functions(self):
        for name, rows in ORDER.items():
            call = self.function(name)
            with self.subTest(name):
                self.check(call, chosen(call, name), rows)

    def drained(self):
        """Objects with too little of some kinds."""
        held = objects()
        for _ in range(2):
            held["Shop"].make((0, 2, 0))
            held["Live"].take(1)
        return held

    def test_methods(self):
        for (word, name), rows in OF_METHODS.items():
            self.assertTrue(any(word == owner and name in told for (_, owner), told in METHODS.items()))
            call = getattr(self.drained()[word], name)
            with self.subTest(name):
                self.check(call, chosen(call, name), rows)

    def test_done(self):
        asker = objects()["Asker"]
        while asker.wanted is not None:
            asker.tell(0)
        self.fault(Refused, "done", asker.tell, None)
        self.fault(Refused, "done", asker.tell, 0)

    def test_classes(self):
        for made, given, error, told in CLASSES:
            self.fault(error, told, made, *given)


if __name__ == "__main__":
    unittest.main()
