"""[5] Errors."""

import copy
import itertools
import unittest

from asmany import errors
from asmany.errors import InvalidBook, InvalidFormula, InvalidNumber, InvalidPool, InvalidRun
from asmany.errors import InvalidText, PoolError, Refused
from plain import STRANGE

WITH_AT = (InvalidBook, InvalidText, InvalidPool, InvalidRun, InvalidFormula)
WITH_WORD = (InvalidNumber, Refused)


class Errors(unittest.TestCase):

    def test_classes(self):
        self.assertEqual(PoolError.__bases__, (ValueError,))
        for error in WITH_AT + WITH_WORD:
            self.assertEqual(error.__bases__, (PoolError,))
            self.assertEqual(error.__module__, errors.__name__)
        for one, other in itertools.permutations(WITH_AT + WITH_WORD, 2):
            self.assertFalse(issubclass(one, other))

    def test_attributes(self):
        for value in (0, 7, -1, "pool") + STRANGE:
            for error in WITH_AT:
                self.assertIs(error(value).at, value)
                self.assertIs(error(at=value).at, value)
                self.assertFalse(hasattr(error(value), "word"))
            for error in WITH_WORD:
                self.assertIs(error(value).word, value)
                self.assertIs(error(word=value).word, value)
                self.assertFalse(hasattr(error(value), "at"))

    def test_raised_and_copied(self):
        for error in WITH_AT + WITH_WORD:
            with self.assertRaises(ValueError) as caught:
                raise error(3)
            self.assertEqual(vars(copy.copy(caught.exception)), vars(error(3)))


if __name__ == "__main__":
    unittest.main()
