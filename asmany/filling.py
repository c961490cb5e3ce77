"""Fillings: formulas that have all ways of a book, and perhaps more."""

from math import gcd

from asmany.basics import MOST_AMOUNT, MOST_WAYS, plus
from asmany.court import is_formula
from asmany.errors import Refused
from asmany.formulas import kinds_of
from asmany.layouts import count_ways, is_way

MOST_TRIED = 200000
# No amount is more than twice the greatest one before it: so 201 of them are far below the guard.
FIELD = 256
GUARD = 1 << 255


def is_filling(book, value):
    """Whether any value is a formula with the kinds of a book that has all its ways."""
    if not is_formula(value) or kinds_of(value) != book.kinds:
        return False
    return all([is_way(value, way) for way in book.ways])


def fillings(book):
    """All normal fillings, ascending."""
    return tuple(sorted(Drafts(book).whole()))


def fewest_filling(book):
    """The first of the normal fillings with the fewest ways, None if there is none."""
    found = [(count_ways(formula), formula) for formula in fillings(book)]
    return min(found)[1] if found else None


def forced_ways(book):
    """The least lot with all ways, and with t + u - s for any three in it; None if it is none."""
    ways = [_packed(way) for way in book.ways]
    guards = _packed([GUARD] * len(book.kinds))
    known = {way: True for way in ways}
    at = 0
    while at < len(ways):
        forced = [way for way in sorted(set(_forced_by(ways[:at + 1], guards))) if way not in known]
        for way in forced:
            if any([_are_alike(way, other, guards) for other in ways]):
                return None
            if len(ways) == MOST_WAYS:
                raise Refused("wide")
            known[way] = True
            ways.append(way)
        at = at + 1
    last = (1 << FIELD) - 1
    fields = [FIELD * k for k in reversed(range(len(book.kinds)))]
    return tuple([tuple([way >> field & last for field in fields]) for way in sorted(ways)])


class Drafts:
    """The normal formulas, for each lot of kinds, by which each way of a book has a share.

    A lot is a mask. For "and" and for "or", `parts` has the formulas that may be a part of one,
    and `rows` the tuples of such parts that together have the kinds of the lot: both for each
    tuple of shares, and then for each size that is the greatest one of a kind.
    """

    def __init__(self, book):
        self.book = book
        self.tried = 0
        self.parts = {"and": {}, "or": {}}
        self.rows = {"and": {}, "or": {}}

    def whole(self):
        """The formulas with all kinds by which each way has the share 1."""
        last = (1 << len(self.book.kinds)) - 1
        for mask in range(1, last):
            drafts = self._drafts(mask, False)
            for word in ("and", "or"):
                self._sort(mask, word, drafts)
        one = (1,) * len(self.book.ways)
        return [formula for formula, shares, _ in self._drafts(last, True) if shares == one]

    def _drafts(self, mask, is_whole):
        """All formulas with the kinds of a lot, with their shares and their greatest sizes."""
        ands = self._joined(mask, "and", is_whole)
        # These may stand inside of a "many".
        inner = self._joined(mask, "or", is_whole)
        if mask & mask - 1 == 0:
            at = mask.bit_length() - 1
            inner = [(("kind", self.book.kinds[at]), tuple([way[at] for way in self.book.ways]), 1)]
        return [*ands, *inner, *[draft for one in inner for draft in _all_many(one)]]

    def _joined(self, mask, word, is_whole):
        """The formulas of two or more parts with the kinds of a lot."""
        found = []
        for lot in range(1, mask):
            # The first part has the first kind.
            if lot & mask == lot and lot & mask & -mask:
                rows = self.rows[word][mask ^ lot]
                for shares, parts in self.parts[word][lot].items():
                    for others, total in self._pairs(word, shares, rows, is_whole):
                        found.extend(self._all_joined(word, parts, rows[others], total))
        return found

    def _pairs(self, word, shares, rows, is_whole):
        """The shares of rows that may stand behind a part with some shares, and those of all together."""
        if word == "and":
            return [(shares, shares)] if shares in rows else []
        if not is_whole:
            self._count(len(rows))
            return [(others, plus(shares, others)) for others in rows]
        found = []
        for number in range(max(shares), MOST_AMOUNT + 1):
            others = tuple([number - one for one in shares])
            if others in rows:
                found.append((others, (number,) * len(shares)))
        return found

    def _all_joined(self, word, parts, rows, shares):
        """Each part with each row behind it, where no number would have to be too great."""
        found = []
        for size, formulas in parts.items():
            for more, others in rows.items():
                most = max(size, more)
                # The numbers around a part multiply to its greatest share, or to more.
                if max(shares) * most <= MOST_AMOUNT:
                    self._count(len(formulas) * len(others))
                    found.extend([((word, (one, *row)), shares, most) for one in formulas for row in others])
        return found

    def _sort(self, mask, word, drafts):
        """Put the parts and the rows of a lot into the tables."""
        parts, rows = {}, {}
        for formula, shares, size in drafts:
            if formula[0] != word:
                parts.setdefault(shares, {}).setdefault(size, []).append(formula)
            row = formula[1] if formula[0] == word else (formula,)
            rows.setdefault(shares, {}).setdefault(size, []).append(row)
        self.parts[word][mask] = parts
        self.rows[word][mask] = rows

    def _count(self, number):
        """Refuse to try too much."""
        self.tried = self.tried + number
        if self.tried > MOST_TRIED:
            raise Refused("wide")


def _all_many(draft):
    """So many of a formula, for each number by which the shares come out even."""
    formula, shares, size = draft
    common = 0
    for one in shares:
        common = gcd(common, one)
    return [
        (("many", number, formula), tuple([part // number for part in shares]), size * number)
        for number in range(2, min(common, MOST_AMOUNT // size) + 1) if common % number == 0
    ]


def _packed(amounts):
    """The amounts as one integer with a field for each, the first one highest."""
    whole = 0
    for amount in amounts:
        whole = whole << FIELD | amount
    return whole


def _are_alike(one, other, guards):
    """Whether one of two packed tuples is within the other one."""
    return (one | guards) - other & guards == guards or (other | guards) - one & guards == guards


def _forced_by(ways, guards):
    """All t + u - s of three ways, the last way among them, for which s is within t + u."""
    last = ways[-1]
    found = []
    for at, one in enumerate(ways):
        both = last + one | guards
        found.extend([both - way ^ guards for way in ways if both - way & guards == guards])
        for other in ways[at:]:
            rest = (one + other | guards) - last
            if rest & guards == guards:
                found.append(rest ^ guards)
    return found
