"""Texts of books."""

from asmany.basics import MOST_AMOUNT, MOST_KINDS, MOST_WAYS, is_name
from asmany.books import Book
from asmany.errors import InvalidText


def read_book(text):
    """The book of a text."""
    if not isinstance(text, str):
        raise InvalidText(-1)
    rows = []
    names = {}
    for at, line in enumerate(text.split("\n")):
        row = _read_line(line)
        if row is None or at == MOST_WAYS:
            raise InvalidText(at)
        for name in row:
            names[name] = True
        if len(names) > MOST_KINDS or any([_are_alike(row, other) for other in rows]):
            raise InvalidText(at)
        rows.append(row)
    kinds = tuple(sorted(names))
    ways = [tuple([row.get(kind, 0) for kind in kinds]) for row in rows]
    return Book(kinds, tuple(sorted(ways)))


def show_book(book):
    """The text of a book."""
    return "\n".join([_show_way(book.kinds, way) for way in book.ways])


def _read_line(line):
    """The amounts of a line by their names, None if it is no line of a book."""
    row = {}
    for part in line.split(","):
        # The only blank is the sign between words: no other white space counts.
        words = [word for word in part.split(" ") if word]
        if len(words) == 1:
            words = ["1", *words]
        if len(words) != 2 or not is_amount(words[0]) or not is_name(words[1]) or words[1] in row:
            return None
        row[words[1]] = int(words[0])
    return row


def is_amount(word):
    """Whether a word is a number from 1 to 60, without leading zeros."""
    # A longer one is not even read: int would refuse thousands of digits.
    if len(word) > 2 or word[0] == "0":
        return False
    return all([sign in "0123456789" for sign in word]) and int(word) <= MOST_AMOUNT


def _are_alike(row, other):
    """Whether one of two ways is within the other one."""
    return _is_within(row, other) or _is_within(other, row)


def _is_within(row, other):
    """Whether no amount of the first way is greater."""
    return all([amount <= other.get(name, 0) for name, amount in row.items()])


def _show_way(kinds, way):
    """The line of a way."""
    parts = []
    for kind, amount in zip(kinds, way):
        if amount > 0:
            parts.append(kind if amount == 1 else f"{amount} {kind}")
    return ", ".join(parts)
