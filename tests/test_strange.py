"""[4] Functions that are described for any value raise only errors of the package."""

import importlib
import inspect
import unittest

from asmany.errors import PoolError
from plain import STRANGE, Stubborn, nested
from test_calls import chosen, objects
from test_interface import INTERFACE, METHODS

# Parameters that always have a value as described, in all functions or in some.
DESCRIBED = {"book", "formula", "boat", "clashes", "net", "shops", "claims"}
OF_SOME = {
    "least_ways": ("ways",), "is_harmless": ("ways",), "harm": ("ways",), "tidy_book": ("kinds", "ways"), "renamed_book": ("names",),
    "formula_of_table": ("most", "pairs"), "share": ("amounts",), "meeting": ("one", "other"), "story_pool": ("story",),
    "story_rounds": ("story",), "joined_by_and": ("other",), "joined_by_or": ("other",), "telling_pool": ("other",),
    "book_path": ("one", "other"), "is_book_path": ("one", "other"), "check_claim": ("claim",),
}
SMALL = (None, True, False, -1, 0, 61, 10 ** 18, 10 ** 30, 1.0, "", "a", "z", b"a", [], {}, (), (1,), ("a",), Stubborn(), nested(50),
         [1], ("a", 1))


def variants(value, depth=0):
    """Values that differ from a right one in one place."""
    if isinstance(value, dict):
        for key in value:
            yield from ({**value, key: one} for one in SMALL)
            yield {other: value[other] for other in value if other != key}
        yield from ({**value, key: 1} for key in ("zz", (), 1, None))
    if not isinstance(value, tuple):
        return
    yield from (list(value), value + value, value[:-1], value[::-1])
    yield from (value + (one,) for one in SMALL)
    for at, item in enumerate(value):
        yield from (value[:at] + (one,) + value[at + 1:] for one in SMALL)
        if depth < 3:
            yield from (value[:at] + (one,) + value[at + 1:] for one in variants(item, depth + 1))


class Strange(unittest.TestCase):

    def check(self, name, made):
        """Try values for each parameter that may be any, and return how many."""
        told = inspect.signature(made()).parameters
        count = 0
        for word, param in told.items():
            if word in DESCRIBED or word in OF_SOME.get(name, ()):
                continue
            given = chosen(made(), name)
            right = given.get(word, param.default)
            for value in (*STRANGE, *SMALL, *variants(right)):
                given[word] = value
                count += 1
                try:
                    made()(**given)
                except PoolError:
                    continue
                except Exception as error:
                    raise AssertionError(f"{name}: {word}") from error
        return count

    def test_functions(self):
        count = 0
        for word, told in INTERFACE.items():
            module = importlib.import_module("asmany." + word)
            for name in told:
                if not inspect.isclass(getattr(module, name)):
                    count += self.check(name, lambda: getattr(module, name))
        self.assertGreater(count, 25000)

    def test_methods(self):
        for (_, word), told in METHODS.items():
            for name in told:
                self.check(name, lambda: getattr(objects()[word], name))


if __name__ == "__main__":
    unittest.main()
