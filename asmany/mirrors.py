"""Session stories, and mirrors of two ways."""

from asmany.basics import has_within, minus, plus, smaller, within
from asmany.errors import InvalidNumber, Refused
from asmany.exchanges import unpaired_story
from asmany.runs import is_way_number
from asmany.sessions import first_session, is_session
from asmany.stories import are_three_ways, is_story


def is_session_story(book, value):
    """Whether any value is a session story of the book."""
    if not are_three_ways(book, value):
        return False
    demand, served, rest = _demand_of(book, value)
    return not _is_served(book, rest) and is_session(book, demand, served)


def all_session_stories(book):
    """The lot of the session stories (s, t, u) with t <= u."""
    stories = []
    for s in range(len(book.ways)):
        for t in range(len(book.ways)):
            stories.extend(_stories_of_two(book, s, t))
    return tuple(stories)


def first_session_story(book):
    """The first session story (s, t, u) with t <= u, None if there is none."""
    for s in range(len(book.ways)):
        for t in range(len(book.ways)):
            stories = _stories_of_two(book, s, t)
            if stories:
                return stories[0]
    return None


def story_rounds(book, story):
    """Two complete rounds of the demand of a session story: of length 2, and a longer one."""
    demand, served, rest = _demand_of(book, story)
    longer = [served]
    while max(rest) > 0:
        longer.append(first_session(book, rest))
        rest = minus(rest, longer[-1])
    return (book.ways[story[1]], book.ways[story[2]]), tuple(longer)


def mirror_fault(book, one, other):
    """None if two ways are a mirror, otherwise some x of which just one side is true."""
    if not is_way_number(book, one):
        raise InvalidNumber("one")
    if not is_way_number(book, other):
        raise InvalidNumber("other")
    both = plus(book.ways[one], book.ways[other])
    # Of each side it is enough to try the greatest x of which it is true.
    for way in book.ways:
        served = smaller(way, both)
        if not has_within(book.ways, minus(both, served)):
            return served
        if within(way, both) and not _is_served(book, minus(both, way)):
            return minus(both, way)
    return None


def session_story_of(book, story):
    """Some session story whose demand has the sum of a story's last two ways within it."""
    if not is_story(book, story):
        raise Refused("story")
    s, t, u = story
    # Some way serves as much as s, and a session at that: it leaves even less to make pieces of.
    s = _way_of_session(book, s, t, u)
    rest = _demand_of(book, (s, t, u))[2]
    for number, way in enumerate(book.ways):
        if within(rest, way):
            # The demand is within this way and s together, where t leaves more than u.
            return t, s, number
    return s, t, u


def story_of_session(book, story):
    """Some story whose pool is within what s takes, or t and u together."""
    if not is_session_story(book, story):
        raise Refused("story")
    s, t, u = story
    rest = _demand_of(book, story)[2]
    for number, way in enumerate(book.ways):
        if within(way, rest):
            # Its partner in t and u would serve what s serves, and leave nothing but this way.
            return unpaired_story(book, number, t, u)
    return s, t, u


def _demand_of(book, story):
    """The sum of t and u, what s serves of it, and what that leaves."""
    s, t, u = story
    demand = plus(book.ways[t], book.ways[u])
    served = smaller(book.ways[s], demand)
    return demand, served, minus(demand, served)


def _is_served(book, amounts):
    """Whether some way has the amounts within it."""
    return any([within(amounts, way) for way in book.ways])


def _stories_of_two(book, s, t):
    """The session stories (s, t, u) with t <= u."""
    triples = [(s, t, u) for u in range(t, len(book.ways))]
    return [triple for triple in triples if is_session_story(book, triple)]


def _way_of_session(book, s, t, u):
    """The number of a way that serves a session of t and u with all that s serves of them."""
    demand, served, _ = _demand_of(book, (s, t, u))
    for number, way in enumerate(book.ways):
        more = smaller(way, demand)
        if within(served, more) and more != served:
            s, served = number, more
    return s
