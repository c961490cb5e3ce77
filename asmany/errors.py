"""The errors of the package."""


class PoolError(ValueError):
    """What all errors of the package have in common."""


class InvalidBook(PoolError):
    """No book: `at` is the index of the first wrong way, or -1."""

    def __init__(self, at):
        self.at = at


class InvalidText(PoolError):
    """No text: `at` is the number of the first wrong line or word, or -1."""

    def __init__(self, at):
        self.at = at


class InvalidPool(PoolError):
    """No pool: `at` is the index of the first wrong amount, or -1."""

    def __init__(self, at):
        self.at = at


class InvalidRun(PoolError):
    """No run: `at` is the index of the first wrong item, or -1."""

    def __init__(self, at):
        self.at = at


class InvalidFormula(PoolError):
    """No formula: `at` is the number of the first wrong part."""

    def __init__(self, at):
        self.at = at


class InvalidNumber(PoolError):
    """A wrong number: `word` is the name of the parameter."""

    def __init__(self, word):
        self.word = word


class Refused(PoolError):
    """What cannot be done: `word` tells why."""

    def __init__(self, word):
        self.word = word
