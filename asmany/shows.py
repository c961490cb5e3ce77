"""Texts of formulas."""

from asmany.basics import MOST_AMOUNT, MOST_KINDS, is_name
from asmany.errors import InvalidText
from asmany.texts import is_amount


class Reader:
    """What has been read of a text of a formula: the words so far, and what is still open."""

    def __init__(self):
        self.names = {}
        self.levels = [Level(1)]
        # What stands next: a part, the word "of", or the word behind a part.
        self.wanted = "part"

    def takes(self, word):
        """Whether a word can stand behind those before it; if so, it is read."""
        if self.wanted == "part":
            return self._takes_part(word)
        if self.wanted == "of":
            self.wanted = "part"
            return word == "of"
        return self._takes_joint(word)

    def is_whole(self):
        """Whether the words so far are a text of a formula."""
        return self.wanted == "joint" and len(self.levels) == 1

    def _takes_part(self, word):
        """Whether a part can begin with a word."""
        level = self.levels[-1]
        if word == "(":
            self.levels.append(Level(level.all_times()))
            return True
        if is_name(word):
            if word in self.names or len(self.names) == MOST_KINDS:
                return False
            self.names[word] = True
            level.take_part(("kind", word))
            self.wanted = "joint"
            return True
        if not is_amount(word) or word == "1":
            return False
        level.numbers.append(int(word))
        self.wanted = "of"
        return level.all_times() <= MOST_AMOUNT

    def _takes_joint(self, word):
        """Whether a word can stand behind a part."""
        level = self.levels[-1]
        if word == ")":
            if len(self.levels) == 1:
                return False
            self.levels.pop()
            self.levels[-1].take_part(level.as_formula())
            return True
        if word not in ("and", "or") or level.word not in (None, word):
            return False
        level.word = word
        self.wanted = "part"
        return True


class Level:
    """What has been read of a text, or of what stands in a parenthesis."""

    def __init__(self, times):
        self.times = times
        self.word = None
        self.parts = []
        self.numbers = []

    def all_times(self):
        """The product of the numbers around what comes next."""
        times = self.times
        for number in self.numbers:
            times = times * number
        return times

    def take_part(self, part):
        """Add a part, with the numbers that stand before it."""
        for number in reversed(self.numbers):
            part = ("many", number, part)
        self.numbers = []
        self.parts.append(part)

    def as_formula(self):
        """The formula that has been read."""
        return self.parts[0] if self.word is None else (self.word, tuple(self.parts))


def read_formula(text):
    """The formula of a text."""
    if not isinstance(text, str):
        raise InvalidText(-1)
    words = text.replace("(", " ( ").replace(")", " ) ").split(" ")
    words = [word for word in words if word]
    reader = Reader()
    for at, word in enumerate(words):
        if not reader.takes(word):
            raise InvalidText(at)
    if not reader.is_whole():
        raise InvalidText(len(words))
    return reader.levels[0].as_formula()


def show_formula(formula):
    """The text that is read as the formula."""
    if formula[0] == "kind":
        return formula[1]
    if formula[0] == "many":
        return f"{formula[1]} of {_show_part(formula[2])}"
    return f" {formula[0]} ".join([_show_part(part) for part in formula[1]])


def _show_part(part):
    """The text of a part, in parentheses if they are needed."""
    text = show_formula(part)
    return f"({text})" if part[0] in ("and", "or") else text
