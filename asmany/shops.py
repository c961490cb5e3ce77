"""Shops, in which amounts come and pieces are made."""

from asmany.basics import MOST_IN_POOL, is_number_to, minus, plus, within
from asmany.errors import InvalidNumber, InvalidRun, PoolError, Refused
from asmany.formulas import kinds_of
from asmany.layouts import is_way
from asmany.pieces import check_pool_of, pieces


class Shop:
    """The deeds done in a shop: those that stand, and those that can be done again."""

    def __init__(self, formula):
        self.formula = formula
        self._standing = ()
        self._undone = ()

    def come(self, amounts):
        """Add a pool to what is there."""
        check_pool_of(self.formula, amounts)
        if max(plus(self.came(), amounts)) > MOST_IN_POOL:
            raise Refused("much")
        self._add(("come", amounts))

    def make(self, way, *, hand=0):
        """Make a piece in a way."""
        if not is_way(self.formula, way):
            raise Refused("way")
        if not is_number_to(hand, MOST_IN_POOL):
            raise InvalidNumber("hand")
        if not within(way, self.pool()):
            raise Refused("short")
        self._add(("make", way, hand))

    def undo(self):
        """Take back the last deed that stands."""
        if not self._standing:
            raise Refused("undo")
        self._undone = (*self._undone, self._standing[-1])
        self._standing = self._standing[:-1]

    def redo(self):
        """Do again the deed that was taken back last."""
        if not self._undone:
            raise Refused("redo")
        self._standing = (*self._standing, self._undone[-1])
        self._undone = self._undone[:-1]

    def came(self):
        """The sum of the amounts that came."""
        return self._sum_of("come")

    def pool(self):
        """What is left of what came."""
        return minus(self.came(), self._sum_of("make"))

    def made(self):
        """The number of pieces made."""
        return len([deed for deed in self._standing if deed[0] == "make"])

    def made_by(self):
        """For each hand that made a piece its number."""
        numbers = {}
        for deed in self._standing:
            if deed[0] == "make":
                numbers[deed[2]] = numbers.get(deed[2], 0) + 1
        return numbers

    def still(self):
        """The number of pieces from what is left."""
        return pieces(self.formula, self.pool())

    def deeds(self):
        """The deeds that stand, in their order."""
        return self._standing

    def _add(self, deed):
        """Do a deed, after which nothing can be done again."""
        self._standing = (*self._standing, deed)
        self._undone = ()

    def _sum_of(self, word):
        """The sum of the amounts of all deeds that stand and have a word."""
        total = (0,) * len(kinds_of(self.formula))
        for deed in self._standing:
            if deed[0] == word:
                total = plus(total, deed[1])
        return total


def replay(formula, deeds):
    """A new shop in which the deeds were done."""
    if not isinstance(deeds, tuple):
        raise InvalidRun(-1)
    shop = Shop(formula)
    for at, deed in enumerate(deeds):
        if not _is_done(shop, deed):
            raise InvalidRun(at)
    return shop


def _is_done(shop, deed):
    """Whether any value is a deed that can be done in a shop; if so, it is done."""
    if not isinstance(deed, tuple) or len(deed) == 0 or not isinstance(deed[0], str):
        return False
    form = (deed[0], len(deed))
    try:
        if form == ("come", 2):
            shop.come(deed[1])
        elif form == ("make", 3):
            shop.make(deed[1], hand=deed[2])
        elif form == ("undo", 1):
            shop.undo()
        elif form == ("redo", 1):
            shop.redo()
        else:
            return False
    except PoolError:
        return False
    return True
