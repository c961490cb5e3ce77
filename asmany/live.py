"""Books that change while pieces are made from a stock."""

from asmany.accounts import count_as
from asmany.basics import MOST_IN_POOL, is_name, is_number_to
from asmany.builder import built
from asmany.edits import book_with, book_without, bundle_of
from asmany.errors import InvalidNumber, Refused
from asmany.pieces import pieces


class Live:
    """A book, a stock of any kinds, and what was taken from it."""

    def __init__(self, book, stock):
        # The book, the stock, all that ever came, and the bundles taken: none of them is changed,
        # they are only replaced, so that those before each change can be kept.
        self._state = (book, dict(stock), dict(stock), ())
        self._past = []

    def bring(self, name, amount):
        """Add to the stock of a kind."""
        book, stock, brought, made = self._state
        if not is_name(name):
            raise Refused("name")
        if not is_number_to(amount, MOST_IN_POOL - brought.get(name, 0)):
            raise InvalidNumber("amount")
        stock = {**stock, name: stock.get(name, 0) + amount}
        brought = {**brought, name: brought.get(name, 0) + amount}
        self._change(book, stock, brought, made)

    def take(self, number):
        """Take a way from the stock; its bundle is returned."""
        book, stock, brought, made = self._state
        bundle = bundle_of(book, number)
        if any([amount > stock.get(name, 0) for name, amount in bundle]):
            raise Refused("short")
        taken = {name: stock[name] - amount for name, amount in bundle}
        self._change(book, {**stock, **taken}, brought, (*made, bundle))
        return bundle

    def put(self, bundle):
        """Add a way to the book; its number is returned."""
        book, stock, brought, made = self._state
        wider = book_with(book, bundle)
        self._change(wider, stock, brought, made)
        bundles = [bundle_of(wider, number) for number in range(len(wider.ways))]
        return bundles.index(bundle)

    def strike(self, number):
        """Strike a way from the book; its bundle is returned."""
        book, stock, brought, made = self._state
        rest = book_without(book, number)
        self._change(rest, stock, brought, made)
        return bundle_of(book, number)

    def undo(self):
        """Take back the last change that is not taken back."""
        if not self._past:
            raise Refused("undo")
        self._state = self._past.pop()

    def changes(self):
        """The number of changes that are not taken back."""
        return len(self._past)

    def present(self):
        """The book."""
        return self._state[0]

    def stock(self):
        """What there is, without zeros."""
        return _without_zeros(self._state[1])

    def brought(self):
        """All that ever came, without zeros."""
        return _without_zeros(self._state[2])

    def made(self):
        """The bundles taken."""
        return self._state[3]

    def still(self):
        """The length of all full runs from the stock, None if the book is not even."""
        formula = built(self.present())
        if formula is None:
            return None
        return pieces(formula, tuple([self._state[1].get(kind, 0) for kind in self.present().kinds]))

    def credit(self):
        """As how many pieces all bundles taken count, None if the book is not even or one does not count."""
        formula = built(self.present())
        if formula is None:
            return None
        numbers = [count_as(formula, bundle) for bundle in self.made()]
        return None if None in numbers else sum(numbers)

    def _change(self, book, stock, brought, made):
        """Replace the state, and keep the one before."""
        self._past.append(self._state)
        self._state = (book, stock, brought, made)


def _without_zeros(table):
    """The items of a dict that are not 0."""
    return {name: amount for name, amount in table.items() if amount > 0}
