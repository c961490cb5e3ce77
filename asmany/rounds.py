"""The lengths and the numbers of complete rounds of a demand."""

from asmany.basics import check_most, is_number
from asmany.errors import InvalidNumber, Refused
from asmany.packs import GUARD_AT, guarded, has_length, lengths_of, one_more, packed, unpacked
from asmany.runs import check_pool
from asmany.stories import joined_rows, ways_with


def round_lengths(book, demand, *, most=2000):
    """The lot of the lengths of all complete rounds."""
    check_pool(book, demand)
    check_most(most)
    return lengths_of(_table(_rounds_of(book, demand, most), _all_lengths)[0])


def count_rounds(book, demand, *, most=2000):
    """The number of all complete rounds."""
    check_pool(book, demand)
    check_most(most)
    return _table(_rounds_of(book, demand, most), _all_counts)[0]


def round_of_length(book, demand, length, *, most=2000):
    """The first complete round with this length, None if there is none."""
    check_pool(book, demand)
    if not is_number(length):
        raise InvalidNumber("length")
    check_most(most)
    demands, rows = _rounds_of(book, demand, most)
    table = _table((demands, rows), _all_lengths)
    if not has_length(table[0], length):
        return None
    found = []
    at = 0
    for others in reversed(range(length)):
        behind = [place for place in rows[at] if has_length(table[place], others)]
        # The first session is the one that leaves most, as Python compares.
        rest = max([demands[place] for place in behind])
        found.append(unpacked(demands[at] - rest, len(demand)))
        at = [place for place in behind if demands[place] == rest][0]
    return tuple(found)


def _all_lengths(rows):
    """The row of lengths of a demand, from those of the demands that its sessions leave."""
    return one_more(rows) if rows else (0, 1)


def _all_counts(counts):
    """The number of rounds of a demand, from those of the demands that its sessions leave."""
    return sum(counts) if counts else 1


def _table(rounds, combine):
    """For each demand that rounds leave the value that `combine` makes of those behind it."""
    demands, rows = rounds
    table = [None] * len(demands)
    # What sessions leave of a demand is less, and so its integer is.
    for _, at in sorted([(demand, at) for at, demand in enumerate(demands)]):
        table[at] = combine([table[place] for place in rows[at]])
    return table


def _rounds_of(book, demand, most):
    """All demands that rounds leave, and for each the places of those that its sessions leave."""
    server = Server(book)
    demands = [guarded(demand)]
    places = {demands[0]: 0}
    rows = []
    while len(rows) < len(demands):
        row = []
        now = demands[len(rows)]
        for session in server.sessions(now):
            rest = now - session
            if rest not in places:
                if len(demands) == most:
                    raise Refused("wide")
                places[rest] = len(demands)
                demands.append(rest)
            row.append(places[rest])
        rows.append(row)
    return demands, rows


class Server:
    """The sessions of a book, found for many demands.

    They hang only on the amounts up to the greatest of a way. Each way would serve so much of
    a demand; it serves a session exactly if no other way serves all that and more. All pairs of
    ways are compared at once, as the bits of one integer: a row for each way, in which there is
    a bit for each other one, and on top one bit more.
    """

    def __init__(self, book):
        self.book = book
        self.size = len(book.ways)
        self.having = [ways_with([way[k] for way in book.ways]) for k in range(len(book.kinds))]
        self.greatest = [max([way[k] for way in book.ways]) for k in range(len(book.kinds))]
        self.packs = [packed(way) for way in book.ways]
        self.guards = guarded([0] * len(book.kinds))
        self.full = joined_rows([(1 << self.size) - 1] * self.size, self.size + 1)
        self.tops = joined_rows([1 << self.size] * self.size, self.size + 1)
        self.known = {}
        self.matrices = {}

    def sessions(self, demand):
        """The sessions of a demand, an integer with all guards, as integers without."""
        amounts = unpacked(demand, len(self.greatest))
        capped = tuple([min(amount, most) for amount, most in zip(amounts, self.greatest)])
        if capped not in self.known:
            cap = guarded(capped)
            rows = [_smaller(self.packs[number], cap, self.guards) for number in self._serving(capped)]
            self.known[capped] = sorted(set(rows)) if max(capped) > 0 else []
        return self.known[capped]

    def _serving(self, capped):
        """The numbers of the ways that serve a session."""
        as_much, more = self.full, 0
        for k, amount in enumerate(capped):
            if (k, amount) not in self.matrices:
                self.matrices[(k, amount)] = self._matrices_of(k, amount)
            part = self.matrices[(k, amount)]
            as_much = as_much & part[0]
            more = more | part[1]
        # A row that is not empty carries into its top bit.
        least = self.tops & ~((as_much & more) + self.full)
        # By this remainder each bit of a row counts as that of a way: the top bit of the row n,
        # n rows of one bit more up, as the bit n. All of them together would be 0.
        ways = (least >> self.size) % self.full_row() or self.full_row()
        return [number for number in range(self.size) if ways >> number & 1]

    def full_row(self):
        """The bits of all ways."""
        return (1 << self.size) - 1

    def _matrices_of(self, k, amount):
        """For each way those that serve as much of a kind, and those that serve more of it."""
        as_much, more = [], []
        for way in self.book.ways:
            as_much.append(self.having[k][min(way[k], amount)])
            more.append(self.having[k][way[k] + 1] if way[k] < amount else 0)
        return joined_rows(as_much, self.size + 1), joined_rows(more, self.size + 1)


def _smaller(way, cap, guards):
    """The smaller amounts of a way and of an integer with guards, all packed."""
    kept = cap - way & guards
    # The bits of all fields in which the way has no more.
    mask = kept - (kept >> GUARD_AT)
    rest = cap ^ guards
    return rest ^ (rest ^ way) & mask
