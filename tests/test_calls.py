"""[4] What holds for every call: nothing changes, and equal calls give equal results."""

import copy
import importlib
import inspect
import unittest

from asmany.asked import Asker
from asmany.boats import Boat
from asmany.books import Book
from asmany.clashes import Clashes
from asmany.court import AsMany, Told
from asmany.errors import PoolError
from asmany.haste import price_table
from asmany.live import Live
from asmany.nets import Net
from asmany.shops import Shop
from asmany.striking import Strikes
from test_interface import INTERFACE, METHODS

WAYS = ((0, 0, 1, 1), (0, 1, 1, 0), (1, 1, 0, 0))
FORMULA = ("many", 2, ("or", (("kind", "b"), ("and", (("kind", "c"), ("kind", "a"))))))


def arguments():
    """For each parameter a value that most functions take, made anew."""
    return {
        "book": Book(("a", "b", "c", "d"), WAYS), "pool": (1, 1, 1, 1), "demand": (1, 1, 1, 1), "run": (0, 2),
        "net": Net((("a", 0, 1), ("b", 1, 2), ("c", 0, 2)), 0, 2), "widths": (1, 2, 3), "lot": ("b",),
        "bar": ("b", "c"), "story": (1, 0, 2), "boat": Boat(("a", "b"), (1, 2), 4), "crowd": (3, 4),
        "formula": FORMULA, "amounts": (2, 0, 2), "number": 0, "length": 2, "way": 1, "one": 0, "other": 2,
        "clashes": Clashes(3, ((0, 1),)), "names": {"a": "x", "b": "y", "c": "z", "d": "a"}, "text": "a, b\n2 c",
        "bundle": (("e", 2),), "value": (1, 0, 2), "kinds": ("a", "b", "c", "d"), "ways": WAYS, "kind": "b",
        "many": 3, "prices": (0, 1, 1, 0), "mix": ((0, 1, 0), (1, 0, 1)), "web": (("a", "b"), ("b", "c"), ("c", "d")),
        "comings": ((2, 3, 0), (1, 0, 3)), "orders": (2, 1), "budget": 20, "rest": 1,
        "table": price_table(Book(("a", "b", "c", "d"), WAYS)),
        "most": {"a": 2, "b": 2, "c": 4}, "pairs": {("a", "b"): 2, ("a", "c"): 0, ("b", "c"): 2},
        "deeds": (("come", (2, 2, 2)), ("make", (1, 1, 1), 3), ("undo",)), "side": ("a", "b"), "lengths": (2, 0, 3),
        "order": (2, 0, 1), "starts": (0, 0, 0), "moment": 1, "hands": 2, "shops": ((FORMULA, (2, 2, 2)), (("kind", "x"), (5,))),
        "sizes": (2, 3), "worths": (0, 0, 0), "claim": ("run", Book(("a", "b", "c", "d"), WAYS), (1, 1, 1, 1), (0, 2)),
        "claims": (("story", Book(("a", "b", "c", "d"), WAYS), (1, 0, 2)), None), "stock": {"a": 2, "b": 1, "x": 0},
        "name": "c", "amount": 2,
    }


def chosen(call, name):
    """The arguments of a call; where one word means several things, those of this function."""
    table = arguments()
    if name == "story_between":
        table["other"] = (1,)
    if name == "meeting":
        table.update(one="a", other="b")
    if name in ("clash_book", "clash_formula"):
        table["names"] = ("x", "z", "y")
    if name == "read_formula":
        table["text"] = "a and 2 of (b or c)"
    told = inspect.signature(call).parameters
    if "formula" in told:
        table.update(pool=(2, 5, 3), prices=(5, 2, 2), demand=(2, 5, 3))
    if name in ("hand_limits", "share_pool"):
        table.update(lot=("b",), other=("a", "b", "c"), many=1)
    if name in ("joined_by_and", "joined_by_or", "telling_pool", "book_path", "is_book_path"):
        table.update(one=table["book"], other=Book(("a", "b", "c", "d"), WAYS[:1] + ((1, 1, 0, 0),)))
    if name in ("joined_by_and", "joined_by_or"):
        table["other"] = Book(("e",), ((2,),))
    if name == "is_book_path":
        table["value"] = (table["one"], table["other"])
    if name == "put_in":
        table["formula"] = ("or", (("kind", "b"), ("many", 2, ("kind", "f"))))
    if name in ("so_many", "even_rooms"):
        table.update(number=2, most=20)
    if name in ("turn_value", "good_turn"):
        table["most"] = 2
    if name == "fair_prices":
        table["worths"] = (4,)
    if name in ("sure_end", "heaviest_lot", "latest_starts"):
        table["clashes"] = Clashes(3, ((0, 1), (0, 2)))
    if name == "steady_bounds":
        table.update(book=Book(("a", "b"), ((0, 3), (2, 1), (3, 0))), pool=(3, 3))
    if name in ("check_formula", "check_pool", "check_web", "unserved"):
        table["value"] = {"check_formula": FORMULA, "check_pool": (1, 1, 1, 1), "check_web": table["web"], "unserved": ()}[name]
    if name == "is_verdict":
        table["value"] = AsMany(FORMULA)
    if name == "is_strikes":
        table["value"] = Strikes((0,), ((1, 0, 2), ()))
    if name == "make":
        table["way"] = (1, 1, 1)
    if name == "come":
        table["amounts"] = (1, 2, 3)
    words = [word for word, one in told.items() if one.default is one.empty and word != "self"]
    return {word: table[word] for word in words}


def state(value):
    """What a value holds, with the attributes of objects."""
    if value.__class__.__module__.startswith("asmany"):
        return value.__class__, {name: state(held) for name, held in vars(value).items()}
    if isinstance(value, (tuple, list)):
        return value.__class__, tuple(state(item) for item in value)
    if isinstance(value, dict):
        return dict, tuple((state(key), state(item)) for key, item in value.items())
    return value.__class__, copy.deepcopy(value)


def objects():
    """An object of each class that has methods, made anew."""
    shop = Shop(FORMULA)
    shop.come((5, 5, 5))
    shop.make((2, 0, 2), hand=4)
    shop.make((1, 1, 1))
    shop.undo()
    live = Live(arguments()["book"], {"a": 2, "b": 2, "c": 3, "d": 3, "q": 0})
    live.take(0)
    live.strike(1)
    asker = Asker(("a", "b"))
    asker.tell(0)
    return {"Asker": asker, "Shop": shop, "Live": live}


def is_error(found):
    return inspect.isclass(found[0]) and issubclass(found[0], PoolError)


class Calls(unittest.TestCase):

    def each(self):
        for word, told in INTERFACE.items():
            module = importlib.import_module("asmany." + word)
            for name in told:
                call = getattr(module, name)
                if not inspect.isclass(call):
                    yield name, call

    def each_method(self):
        for (_, word), told in METHODS.items():
            for name in told:
                yield word, name

    def result(self, call, given):
        try:
            return None, state(call(**given))
        except PoolError as error:
            return error.__class__, vars(error)

    def test_equal_calls(self):
        for name, call in self.each():
            given = chosen(call, name)
            before = state(tuple(given.values()))
            first = self.result(call, given)
            self.assertEqual(state(tuple(given.values())), before, name)
            self.assertEqual(self.result(call, given), first, name)
            self.assertEqual(self.result(call, chosen(call, name)), first, name)
            # By position: all but those that are passed by their names alone.
            self.assertEqual(self.result(lambda: call(*given.values()), {}), first, name)
            self.assertFalse(is_error(first), name)

    def test_equal_calls_of_methods(self):
        for word, name in self.each_method():
            found, held = [], objects()
            for one in (held[word], objects()[word]):
                call = getattr(one, name)
                given = chosen(call, name)
                before = state(tuple(given.values()))
                found.append((self.result(call, given), state(one)))
                self.assertEqual(state(tuple(given.values())), before, name)
            self.assertEqual(found[0], found[1], name)
            self.assertFalse(is_error(found[0][0]), name)
            # What has no described result returns None, and what has one changes nothing.
            nothing = found[0][0] == (None, (None.__class__, None))
            self.assertIs(nothing, name in ("tell", "come", "make", "undo", "redo", "bring"), name)
            changed = found[0][1] != state(objects()[word])
            self.assertIs(changed, nothing or name in ("take", "put", "strike"), name)

    def test_methods_that_raise(self):
        """No object changes if a call raises an error."""
        wrong = (None, True, -1, "", "A", (), [], {}, (None,) * 3, (0, True, 0))
        for word, name in self.each_method():
            one = objects()[word]
            call = getattr(one, name)
            told = [param for param in inspect.signature(call).parameters]
            for param in told:
                for value in wrong:
                    given = chosen(call, name)
                    given[param] = value
                    before = state(one)
                    found = self.result(call, given)
                    self.assertTrue(is_error(found), (name, param, value))
                    self.assertEqual(state(one), before)
        for word, name in (("Shop", "undo"), ("Shop", "redo"), ("Live", "undo")):
            one = objects()[word]
            while not is_error(self.result(getattr(one, name), {})):
                before = state(one)
            before = state(one)
            self.assertTrue(is_error(self.result(getattr(one, name), {})))
            self.assertEqual(state(one), before)

    def found(self):
        """All results, of functions and methods, with their names and arguments."""
        for name, call in self.each():
            given = chosen(call, name)
            yield name, given, call(**given), call
        for word, name in self.each_method():
            call = getattr(objects()[word], name)
            given = chosen(call, name)
            yield name, given, call(**given), call

    def test_sequences_are_tuples(self):
        for name, _, result, _ in self.found():
            waiting = [result]
            while waiting:
                item = waiting.pop()
                self.assertNotIsInstance(item, (list, set, range, float), name)
                if isinstance(item, tuple):
                    waiting.extend(item)
                if isinstance(item, dict):
                    waiting.extend(item.items())
                if item.__class__.__module__.startswith("asmany") and not isinstance(item, (Shop, Live)):
                    waiting.extend(vars(item).values())

    def test_returned_dicts_are_new(self):
        some = 0
        for name, _, result, call in self.found():
            if isinstance(result, dict):
                given = chosen(call, name)
                kept = dict(result)
                self.assertEqual(call(**given), kept, name)
                result.clear()
                self.assertEqual(call(**given), kept, name)
                call(**given)["a"] = None
                self.assertEqual(call(**given), kept, name)
                some += 1
        self.assertGreater(some, 7)

    def test_later_changes(self):
        """What is done to an argument later has no effect."""
        some = 0
        for name, given, result, _ in self.found():
            before = state(result)
            for value in given.values():
                if isinstance(value, dict):
                    value.clear()
                    some += 1
            self.assertEqual(state(result), before, name)
        self.assertGreater(some, 3)
        table = {"a": 2, "b": 1}
        live = Live(arguments()["book"], table)
        table.clear()
        self.assertEqual(live.stock(), {"a": 2, "b": 1})

    def test_classes_keep_their_arguments(self):
        for kept in (Book(("a",), ((2,),)), Boat(("a",), (2,), 5), Clashes(2, ((0, 1),)), Net((("a", 0, 1),), 0, 1), AsMany(FORMULA),
                     Told((0, 1, 2)), Strikes((1,), None), Asker(("a", "b")), Shop(FORMULA)):
            words = list(inspect.signature(kept.__class__).parameters)
            for word in words:
                self.assertTrue(hasattr(kept, word))
            again = kept.__class__(*[getattr(kept, word) for word in words])
            self.assertEqual(state(again), state(kept))
            # Only books are compared.
            self.assertIs(again == kept, isinstance(kept, Book))

    def test_books_are_equal_to_nothing_else(self):
        book = Book(("a",), ((2,),))
        for other in (None, 0, "", (("a",), ((2,),)), Book(("a",), ((3,),)), Book(("b",), ((2,),)), object(), AsMany(("kind", "a"))):
            self.assertIs(book == other, False)
            self.assertIs(book != other, True)
        self.assertIs(book != Book(("a",), ((2,),)), False)


if __name__ == "__main__":
    unittest.main()
