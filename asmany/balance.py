"""Best prices and a best mix of a bar, found together.

Slow ways are offered so that one of them is taken in all, and fast ways so that together they use
no more of any kind of the bar than the slow ways do; as many fast ways as can be are taken. What
one more unit of a kind would bring are prices: at the end no fast way costs less than what it
counts, and no slow way more than the bound on the slow ways brings. It is the simplex method, with
whole numbers: what is kept of a matrix are its entries times the one number `scale`.
"""

from math import gcd


class Balance:
    """The ways that are taken at the moment, and what they bring.

    There is a row for each kind of the bar, and one for the bound on the slow ways. A row tells
    how much is taken of its `basis`, and then how this hangs on the bounds of all rows.
    """

    def __init__(self, ways):
        self.ways = ways
        size = len(ways[0]) + 1
        self.scale = 1
        units = [[1 if k == at else 0 for k in range(size)] for at in range(size)]
        self.rows = [[1 if at == size - 1 else 0, *units[at]] for at in range(size)]
        self.gains = [0] * (size + 1)
        # Of each row what is taken: a word, and the number of a way or a row.
        self.basis = [("rest", at) for at in range(size)]

    def settle(self):
        """Take other ways as long as these bring more."""
        taken = self._best_step()
        while taken is not None:
            self._take(taken)
            taken = self._best_step()

    def prices(self):
        """The prices of the kinds, and the bound: what one more slow way would bring."""
        return self.gains[1:-1], self.gains[-1]

    def counts(self, word):
        """How often each way is taken as a slow or a fast one."""
        counts = [0] * len(self.ways)
        for (told, at), row in zip(self.basis, self.rows):
            if told == word:
                counts[at] = row[0]
        return counts

    def _best_step(self):
        """What brings most when it is taken next, None if nothing brings more."""
        prices, bound = self.prices()
        steps = [(value, ("rest", at)) for at, value in enumerate(self.gains[1:])]
        for number, way in enumerate(self.ways):
            cost = sum([price * amount for price, amount in zip(prices, way)])
            steps.append((cost - self.scale, ("fast", number)))
            steps.append((bound - cost, ("slow", number)))
        value, taken = min(steps)
        return taken if value < 0 else None

    def _take(self, taken):
        """Take something in the place of what is then used up first."""
        column, gain = self._column(taken)
        size = len(column)
        changes = [sum([row[k + 1] * column[k] for k in range(size)]) for row in self.rows]
        loss = sum([self.gains[k + 1] * column[k] for k in range(size)]) - gain * self.scale
        at = self._first_used_up(changes)
        pivot = self.rows[at]
        self.gains = self._without(self.gains, pivot, loss, changes[at])
        for other, change in enumerate(changes):
            if other != at:
                self.rows[other] = self._without(self.rows[other], pivot, change, changes[at])
        self.scale = changes[at]
        self.basis[at] = taken

    def _column(self, taken):
        """What is used of each row by one more of something, and what it counts."""
        word, at = taken
        size = len(self.rows)
        if word == "rest":
            return [1 if k == at else 0 for k in range(size)], 0
        if word == "fast":
            return [*self.ways[at], 0], 1
        return [*[-amount for amount in self.ways[at]], 1], 0

    def _first_used_up(self, changes):
        """The row that is used up first. Ties are broken by the whole rows: so nothing comes again."""
        best = None
        for at, change in enumerate(changes):
            if change > 0 and (best is None or self._is_before(at, best, changes)):
                best = at
        return best

    def _is_before(self, at, best, changes):
        """Whether a row, divided by its change, is less than another one."""
        one = [item * changes[best] for item in self.rows[at]]
        return one < [item * changes[at] for item in self.rows[best]]

    def _without(self, row, pivot, change, whole):
        """The row without what the pivot's row has of the change, at the new scale."""
        return [(x * whole - y * change) // self.scale for x, y in zip(row, pivot)]


def best_pair(ways):
    """Prices and the counts of a mix by which the haste is reached, for ways by the kinds of a bar."""
    kept = sorted(set(ways))
    balance = Balance(kept)
    balance.settle()
    prices, _ = balance.prices()
    mix = []
    for word in ("slow", "fast"):
        counts = [0] * len(ways)
        for way, count in zip(kept, balance.counts(word)):
            counts[ways.index(way)] = count
        mix.append(counts)
    return _reduced([prices])[0], _reduced(mix)


def _reduced(rows):
    """The rows as tuples, divided by what divides all their numbers."""
    common = 0
    for row in rows:
        for number in row:
            common = gcd(common, number)
    return tuple([tuple([amount // common for amount in row]) for row in rows])
