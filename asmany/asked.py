"""A formula found by the numbers of pieces from some pools."""

from math import gcd

from asmany.basics import MOST_AMOUNT, are_kinds, is_number
from asmany.errors import InvalidNumber, Refused
from asmany.pieces import pieces
from asmany.tables import formula_of_table, two_of

PLENTY = 10 ** 6
# With a sixtieth of that of one kind, and plenty of the others that it needs, it alone limits the
# pieces, and their number is different for each size.
SOME = 16666


class Unanswered(Exception):
    """What is asked next: the number of pieces from the pool `wanted`."""

    def __init__(self, wanted):
        self.wanted = wanted


class Asker:
    """Finds a formula with these kinds, by numbers of pieces that are told."""

    def __init__(self, kinds):
        if not are_kinds(kinds):
            raise Refused("kinds")
        self.kinds = kinds
        self.answers = ()
        self.wanted, self.found = _next_step(kinds, ())

    def tell(self, number):
        """Answer for the pool wanted."""
        if self.wanted is None:
            raise Refused("done")
        if not is_number(number):
            raise InvalidNumber("number")
        self.answers = (*self.answers, (self.wanted, number))
        self.wanted, self.found = _next_step(self.kinds, self.answers)


def _next_step(kinds, answers):
    """The pool that is wanted next, and the formula: one of both, or none."""
    told = dict(answers)
    try:
        formula = _formula_told(kinds, told)
    except Unanswered as question:
        return question.wanted, None
    if formula is None or any([pieces(formula, pool) != number for pool, number in answers]):
        return None, None
    return None, formula


def _formula_told(kinds, told):
    """The only formula that the numbers told may be those of, None if there is none.

    It is found anew after each answer, in the same sequence each time: so it asks further
    exactly where an answer is missing.
    """
    enough = _enough_for_each(kinds, told)
    if enough is None:
        return None
    sizes = {kind: _size(kinds, told, enough[kind], kind) for kind in kinds}
    if None in list(sizes.values()):
        return None
    pairs = {}
    for one, other in two_of(kinds):
        lot = tuple(sorted(set([*enough[one], *enough[other]])))
        if _meet_in_and(kinds, told, enough, lot, one, other):
            pairs[(one, other)] = 0
        else:
            pairs[(one, other)] = _meeting(kinds, told, lot, (one, sizes[one]), (other, sizes[other]))
    return formula_of_table(sizes, pairs)


def _ask(kinds, told, table):
    """The number of pieces from the amounts in a dict, 0 of other kinds."""
    pool = tuple([table.get(kind, 0) for kind in kinds])
    if pool not in told:
        raise Unanswered(pool)
    return told[pool]


def _is_enough(kinds, told, lot):
    """Whether plenty of the kinds of a lot makes a piece."""
    if len(lot) in (0, len(kinds)):
        return len(lot) > 0
    return _ask(kinds, told, {kind: PLENTY for kind in lot}) > 0


def _enough_for_each(kinds, told):
    """For each kind a lot with it that is just enough for a piece; None if some kind has none."""
    lot = _least_enough(kinds, told, kinds, ())
    enough = {kind: lot for kind in lot}
    # Also for each kind a lot with it without which there just is no piece.
    barring = {}
    waiting = list(lot)
    while waiting:
        kind = waiting.pop()
        if kind not in enough:
            rest = _without(kinds, _without(barring[kind], (kind,)))
            lot = _least_enough(kinds, told, rest, (kind,))
            waiting.extend([other for other in lot if other not in enough])
            for other in lot:
                enough.setdefault(other, lot)
        if kind not in barring:
            rest = _without(kinds, _without(enough[kind], (kind,)))
            lot = _least_barring(kinds, told, rest, (kind,))
            waiting.extend([other for other in lot if other not in barring])
            for other in lot:
                barring.setdefault(other, lot)
    return enough if len(enough) == len(kinds) else None


def _without(kinds, lot):
    """The kinds that are not in a lot."""
    return tuple([kind for kind in kinds if kind not in lot])


def _least_enough(kinds, told, lot, needed):
    """A lot that is just enough for a piece, from one that is enough and needs some kinds."""
    for kind in _without(lot, needed):
        if _is_enough(kinds, told, _without(lot, (kind,))):
            lot = _without(lot, (kind,))
    return lot


def _least_barring(kinds, told, lot, needed):
    """A lot without which there just is no piece, from one without which there is none."""
    for kind in _without(lot, needed):
        if not _is_enough(kinds, told, _without(kinds, _without(lot, (kind,)))):
            lot = _without(lot, (kind,))
    return lot


def _size(kinds, told, lot, kind):
    """The size of a kind, by a lot with it that is just enough; None if none fits."""
    table = {other: PLENTY for other in lot}
    table[kind] = SOME
    number = _ask(kinds, told, table)
    for size in range(1, MOST_AMOUNT + 1):
        if SOME // size == number:
            return size
    return None


def _meet_in_and(kinds, told, enough, lot, one, other):
    """Whether two kinds meet in an "and", by lots that are just enough, together `lot`."""
    if other in enough[one] or one in enough[other]:
        return True
    # Then each lot brings its piece of the part in which the other kind stands.
    return _is_enough(kinds, told, _without(lot, (one, other)))


def _meeting(kinds, told, lot, one, other):
    """The meeting above 0 of two kinds, given with their sizes."""
    common = gcd(one[1], other[1])
    numbers = [number for number in range(1, common + 1) if common % number == 0]
    table = {kind: PLENTY for kind in lot}
    # One unit less than a piece takes makes all but one of the parts that meet in a piece.
    table[one[0]] = one[1] - 1
    while len(numbers) > 1:
        middle = len(numbers) // 2
        table[other[0]] = other[1] // numbers[middle]
        if _ask(kinds, told, table) > 0:
            numbers = numbers[middle:]
        else:
            numbers = numbers[:middle]
    return numbers[0]
