"""Webs of pairs of kinds that may go together."""

from asmany.basics import MOST_KINDS, is_name
from asmany.books import Book
from asmany.errors import InvalidBook
from asmany.formulas import normal

MOST_PAIRS = 36


def check_web(value):
    """Raise InvalidBook unless the value is a web."""
    if not isinstance(value, tuple) or not 1 <= len(value) <= MOST_PAIRS:
        raise InvalidBook(-1)
    for at, pair in enumerate(value):
        if not _is_pair(pair) or at > 0 and not value[at - 1] < pair:
            raise InvalidBook(at)
        if len(_kinds_of_web(value[:at + 1])) > MOST_KINDS:
            raise InvalidBook(at)


def web_book(web):
    """The book with a way for each pair."""
    check_web(web)
    kinds = _kinds_of_web(web)
    ways = [tuple([pair.count(kind) for kind in kinds]) for pair in web]
    return Book(kinds, tuple(sorted(ways)))


def open_walk(web):
    """The first walk of three pairs whose ends may not go together, None if there is none."""
    check_web(web)
    kinds = _kinds_of_web(web)
    near = {kind: [other for other in kinds if _are_near(web, kind, other)] for kind in kinds}
    for a in kinds:
        for b in near[a]:
            for c in near[b]:
                for d in near[c]:
                    if d not in near[a]:
                        return a, b, c, d
    return None


def web_formula(web):
    """The normal formula of a closed web, None for another one."""
    if open_walk(web) is not None:
        return None
    pieces = []
    named = []
    for kind in _kinds_of_web(web):
        if kind not in named:
            # In a closed web those near a kind are its other side, or all of its piece.
            near = _near(web, kind)
            far = _near(web, near[0])
            named.extend([*near, *far])
            many = ("many", 2, _any_of(near))
            pieces.append(many if near == far else ("and", (_any_of(near), _any_of(far))))
    return normal(pieces[0] if len(pieces) == 1 else ("or", tuple(pieces)))


def closed_web(web):
    """The closed web with the fewest pairs that has all pairs of a web."""
    check_web(web)
    pairs = []
    for kind in _kinds_of_web(web):
        pairs.extend([(kind, other) for other in _oddly_joined(web, kind) if kind <= other])
    return tuple(sorted(pairs))


def _is_pair(value):
    """Whether any value is a pair of names, the first one not greater."""
    if not isinstance(value, tuple) or len(value) != 2:
        return False
    return is_name(value[0]) and is_name(value[1]) and value[0] <= value[1]


def _kinds_of_web(web):
    """The lot of the kinds of some pairs."""
    return tuple(sorted(set([kind for pair in web for kind in pair])))


def _are_near(web, one, other):
    """Whether two kinds may go together."""
    return (min(one, other), max(one, other)) in web


def _near(web, kind):
    """The kinds that may go together with a kind, ascending."""
    return [other for other in _kinds_of_web(web) if _are_near(web, kind, other)]


def _any_of(kinds):
    """The formula of one of some kinds."""
    parts = tuple([("kind", kind) for kind in kinds])
    return parts[0] if len(parts) == 1 else ("or", parts)


def _oddly_joined(web, kind):
    """The kinds that a walk of pairs of odd length joins with a kind."""
    waiting = [(kind, 0)]
    found = {(kind, 0): True}
    while waiting:
        place, steps = waiting.pop()
        for other in _near(web, place):
            step = (other, 1 - steps)
            if step not in found:
                found[step] = True
                waiting.append(step)
    return [other for other, steps in found if steps == 1]
