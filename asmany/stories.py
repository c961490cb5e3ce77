"""Stories: three ways that give two numbers of pieces from one pool."""

from asmany.basics import greater, has_within, minus, plus
from asmany.runs import is_way_number


def is_story(book, value):
    """Whether any value is a story of the book."""
    if not are_three_ways(book, value):
        return False
    pool = story_pool(book, value)
    return not has_within(book.ways, minus(pool, book.ways[value[0]]))


def story_pool(book, story):
    """The least pool that s fits, and that t and u fit one after another."""
    s, t, u = story
    return greater(book.ways[s], plus(book.ways[t], book.ways[u]))


def all_stories(book):
    """The lot of the stories (s, t, u) with t <= u."""
    table = _pairs_with(book)
    size = len(book.ways)
    stories = []
    for s in range(size):
        pairs = _pairs_told(book, table, s)
        for t in range(size):
            row = pairs >> t * size
            stories.extend([(s, t, u) for u in range(t, size) if row >> u & 1])
    return tuple(stories)


def first_story(book):
    """The first story (s, t, u) with t <= u, None if there is none."""
    table = _pairs_with(book)
    for s in range(len(book.ways)):
        pairs = _pairs_told(book, table, s)
        if pairs != 0:
            lowest = (pairs & -pairs).bit_length() - 1
            return s, lowest // len(book.ways), lowest % len(book.ways)
    return None


def are_three_ways(book, value):
    """Whether any value is a tuple of three numbers of ways."""
    if not isinstance(value, tuple) or len(value) != 3:
        return False
    return all([is_way_number(book, number) for number in value])


def _pairs_told(book, table, s):
    """The pairs (t, u) with which a way s is a story, one bit for each.

    All pairs are tried at once, as the bits of one integer: with 200 ways they would be
    too many one by one.
    """
    size = len(book.ways)
    pairs = joined_rows([_later(size, t) for t in range(size)], size)
    for way in book.ways:
        fits = pairs
        for k, amount in enumerate(way):
            # What s leaves of the pool has so much if t and u have as much, and s besides.
            if amount > 0:
                fits = fits & table[k][amount + book.ways[s][k]]
        pairs = pairs ^ fits
        if pairs == 0:
            break
    return pairs


def _pairs_with(book):
    """For each kind and amount the pairs (t, u), t <= u, that have as much together.

    The bit of a pair is t times the number of ways, plus u.
    """
    size = len(book.ways)
    later = [_later(size, t) for t in range(size)]
    table = []
    for k in range(len(book.kinds)):
        amounts = [way[k] for way in book.ways]
        having = ways_with(amounts)
        table.append([
            joined_rows([later[t] & having[max(most - amounts[t], 0)] for t in range(size)], size)
            for most in range(len(having))
        ])
    return table


def ways_with(amounts):
    """For each sum of two amounts the ways that have as much alone, one bit for each."""
    having = [0] * (2 * max(amounts) + 1)
    for number, most in enumerate(amounts):
        for amount in range(most + 1):
            having[amount] = having[amount] | 1 << number
    return having


def _later(size, t):
    """The ways from t on, one bit for each."""
    return (1 << size) - (1 << t)


def joined_rows(rows, size):
    """The rows of bits as one integer, the first row lowest."""
    bits = 0
    for row in reversed(rows):
        bits = bits << size | row
    return bits
