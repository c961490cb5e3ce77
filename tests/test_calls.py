"""[4] What holds for every call: nothing changes, and equal calls give equal results."""

import copy
import importlib
import inspect
import unittest

from asmany import parts
from asmany.boats import Boat
from asmany.books import Book
from asmany.clashes import Clashes
from asmany.errors import PoolError
from asmany.haste import price_table
from asmany.nets import Net
from test_interface import INTERFACE

WAYS = ((0, 0, 1, 1), (0, 1, 1, 0), (1, 1, 0, 0))
FORMULA = ("many", 2, ("or", (("kind", "b"), ("and", (("kind", "c"), ("kind", "a"))))))


def arguments():
    """For each parameter a value that most functions take, made anew."""
    return {
        "book": Book(("a", "b", "c", "d"), WAYS), "pool": (1, 1, 1, 1), "demand": (1, 1, 1, 1), "run": (0, 2),
        "net": Net((("a", 0, 1), ("b", 1, 2), ("c", 0, 2)), 0, 2), "widths": (1, 2, 3), "lot": ("b",),
        "bar": ("b", "c"), "story": (1, 0, 2), "boat": Boat(("a", "b"), (1, 2), 4), "crowd": (3, 4),
        "formula": FORMULA, "amounts": (2, 0, 2), "number": 0, "length": 2, "way": 1, "one": 0, "other": 2,
        "clashes": Clashes(3, ((0, 1),)), "names": {"a": "x", "b": "y", "c": "z", "d": "a"}, "text": "a, b\n2 c",
        "bundle": (("e", 2),), "value": (1, 0, 2), "kinds": ("a", "b", "c", "d"), "ways": WAYS, "kind": "b",
        "many": 3, "prices": (0, 1, 1, 0), "mix": ((0, 1, 0), (1, 0, 1)), "web": (("a", "b"), ("b", "c"), ("c", "d")),
        "comings": ((2, 3, 0), (1, 0, 3)), "orders": (2, 1), "budget": 20, "rest": 1,
        "table": price_table(Book(("a", "b", "c", "d"), WAYS)),
        "most": {"a": 2, "b": 2, "c": 4}, "pairs": {("a", "b"): 2, ("a", "c"): 0, ("b", "c"): 2},
    }


def chosen(call, name):
    """The arguments of a call; where one word means several things, those of this function."""
    table = arguments()
    if name == "story_between":
        table["other"] = (1,)
    if name == "meeting":
        table.update(one="a", other="b")
    if name in ("clash_book", "clash_formula"):
        table["names"] = ("x", "z", "y")
    if name == "read_formula":
        table["text"] = "a and 2 of (b or c)"
    told = inspect.signature(call).parameters
    if "formula" in told:
        table.update(pool=(2, 5, 3), prices=(5, 2, 2))
    if name in ("hand_limits", "share_pool"):
        table.update(lot=("b",), other=("a", "b", "c"), many=1)
    words = [word for word, one in told.items() if one.default is one.empty]
    return {word: table[word] for word in words}


def state(value):
    """What a value holds, with the attributes of objects."""
    if isinstance(value, (Book, Boat, Clashes, Net)):
        return value.__class__, copy.deepcopy(vars(value))
    if isinstance(value, tuple):
        return tuple(state(item) for item in value)
    return copy.deepcopy(value)


class Calls(unittest.TestCase):

    def each(self):
        for word, told in INTERFACE.items():
            module = importlib.import_module("asmany." + word)
            for name in told:
                call = getattr(module, name)
                if not inspect.isclass(call):
                    yield name, call

    def result(self, call, given):
        try:
            return state(call(**given))
        except PoolError as error:
            return error.__class__, vars(error)

    def test_equal_calls(self):
        refused = []
        for name, call in self.each():
            given = chosen(call, name)
            before = state(tuple(given.values()))
            first = self.result(call, given)
            self.assertEqual(state(tuple(given.values())), before, name)
            self.assertEqual(self.result(call, given), first, name)
            self.assertEqual(self.result(call, chosen(call, name)), first, name)
            # By position: all but those that are passed by their names alone.
            self.assertEqual(self.result(lambda: call(*given.values()), {}), first, name)
            if isinstance(first, tuple) and first and inspect.isclass(first[0]) and issubclass(first[0], PoolError):
                refused.append(name)
        self.assertEqual(sorted(refused), ["check_formula", "check_pool", "check_web", "unserved"])

    def test_sequences_are_tuples(self):
        for name, call in self.each():
            try:
                found = call(**chosen(call, name))
            except PoolError:
                continue
            waiting = [found]
            while waiting:
                item = waiting.pop()
                self.assertNotIsInstance(item, (list, set, range), name)
                if isinstance(item, tuple):
                    waiting.extend(item)
                if isinstance(item, dict):
                    waiting.extend(item.items())

    def test_returned_dicts_are_new(self):
        for name, call in self.each():
            given = chosen(call, name)
            try:
                found = call(**given)
            except PoolError:
                continue
            if isinstance(found, dict):
                kept = dict(found)
                found.clear()
                self.assertEqual(call(**given), kept, name)

    def test_later_changes(self):
        names = {"a": "x", "b": "y", "c": "z", "d": "a"}
        found = parts.renamed_book(arguments()["book"], names)
        names.clear()
        self.assertEqual(found.kinds, ("a", "x", "y", "z"))


if __name__ == "__main__":
    unittest.main()
