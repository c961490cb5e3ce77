"""Jobs that clash, rows of four, trees, and books of jobs that do not clash."""

from asmany.basics import is_ascending, is_name, is_number, is_number_to
from asmany.books import Book
from asmany.errors import InvalidNumber, Refused
from asmany.formulas import normal

MOST_JOBS = 60
MOST_NAMED_JOBS = 8


class Clashes:
    """A number of jobs, and the lot of the pairs of them that clash."""

    def __init__(self, jobs, pairs):
        if not is_number_to(jobs, MOST_JOBS) or jobs == 0:
            raise InvalidNumber("jobs")
        if not isinstance(pairs, tuple) or not all([_is_pair(jobs, pair) for pair in pairs]):
            raise Refused("pairs")
        if not is_ascending(pairs):
            raise Refused("pairs")
        self.jobs = jobs
        self.pairs = pairs


def row_of_four(clashes):
    """The first row of four, None if there is none."""
    near = near_of(clashes)
    for a in range(clashes.jobs):
        for b in jobs_of(near[a]):
            for c in jobs_of(near[b] & ~near[a]):
                # Only a job behind a may be the last one.
                ends = near[c] & ~near[a] & ~near[b] & -(1 << a)
                if ends != 0:
                    return a, b, c, jobs_of(ends)[0]
    return None


def is_row_of_four(clashes, value):
    """Whether any value is a row of four."""
    if not isinstance(value, tuple) or len(value) != 4:
        return False
    if not all([is_number(job) for job in value]):
        return False
    a, b, c, d = value
    pairs = [(a, b), (b, c), (c, d), (a, c), (b, d), (a, d)]
    clash = [(min(pair), max(pair)) in clashes.pairs for pair in pairs]
    return a < d and clash == [True, True, True, False, False, False]


def clash_tree(clashes):
    """The only tree without needless parts, in the order of first jobs; None without one."""
    return _tree_of(near_of(clashes), (1 << clashes.jobs) - 1)


def is_clash_tree(clashes, value):
    """Whether any value is a tree of the clashes."""
    if not _has_each_once(clashes.jobs, value):
        return False
    rows = [0] * clashes.jobs
    _add_turns(value, rows)
    return rows == near_of(clashes)


def clash_book(clashes, names):
    """The book of the greatest lots of jobs no two of which clash."""
    _check_names(clashes, names)
    near = near_of(clashes)
    kinds = tuple(sorted(names))
    jobs = [names.index(kind) for kind in kinds]
    ways = []
    for lot in range(1 << clashes.jobs):
        # Alone and greatest: the jobs that clash with the lot are just the other ones.
        if _clashing(near, lot) == (1 << clashes.jobs) - 1 - lot:
            ways.append(tuple([lot >> job & 1 for job in jobs]))
    return Book(kinds, tuple(sorted(ways)))


def clash_formula(clashes, names):
    """The normal formula of the book, None if the clashes are not calm."""
    _check_names(clashes, names)
    tree = clash_tree(clashes)
    return None if tree is None else normal(_formula_of(tree, names))


def _is_pair(jobs, value):
    """Whether any value is a pair of two of so many jobs, ascending."""
    if not isinstance(value, tuple) or len(value) != 2:
        return False
    return is_number(value[0]) and is_number(value[1]) and value[0] < value[1] < jobs


def _check_names(clashes, names):
    """Refuse too many jobs, and any value without a different name for each job."""
    if clashes.jobs > MOST_NAMED_JOBS:
        raise Refused("wide")
    if not isinstance(names, tuple) or len(names) != clashes.jobs:
        raise Refused("names")
    if not all([is_name(name) for name in names]) or len(set(names)) < len(names):
        raise Refused("names")


def near_of(clashes):
    """For each job those with which it clashes, one bit for each."""
    near = [0] * clashes.jobs
    for i, j in clashes.pairs:
        near[i] = near[i] | 1 << j
        near[j] = near[j] | 1 << i
    return near


def jobs_of(lot):
    """The jobs of a lot, ascending."""
    return [job for job in range(lot.bit_length()) if lot >> job & 1]


def _clashing(near, lot):
    """The jobs that clash with one of a lot."""
    found = 0
    for job in jobs_of(lot):
        found = found | near[job]
    return found


def _tree_of(near, lot):
    """The tree of the jobs of a lot, None if there is none."""
    jobs = jobs_of(lot)
    if len(jobs) == 1:
        return "job", jobs[0]
    far = [lot & ~row for row in near]
    for word, rows in (("beside", near), ("turn", far)):
        parts = _pieces(rows, lot)
        if len(parts) > 1:
            trees = [_tree_of(near, part) for part in parts]
            return None if any([tree is None for tree in trees]) else (word, tuple(trees))
    return None


def _pieces(rows, lot):
    """The lots of jobs that hang together by the rows, in the order of their first jobs."""
    pieces = []
    while lot != 0:
        piece = lot & -lot
        further = piece
        while further != 0:
            further = _clashing(rows, further) & lot & ~piece
            piece = piece | further
        pieces.append(piece)
        lot = lot & ~piece
    return pieces


def _has_each_once(jobs, value):
    """Whether any value has the form of a tree, with each job once."""
    seen = {}
    # The parts wait in a list, as a value may be nested deeper than calls.
    waiting = [value]
    while waiting:
        part = waiting.pop()
        if not isinstance(part, tuple) or len(part) != 2 or not isinstance(part[0], str):
            return False
        word, inner = part
        if word == "job":
            if not is_number(inner) or inner >= jobs or inner in seen:
                return False
            seen[inner] = True
        elif word in ("beside", "turn") and isinstance(inner, tuple) and len(inner) > 1:
            waiting.extend(inner)
        else:
            return False
    return len(seen) == jobs


def _add_turns(tree, rows):
    """Put into the rows which jobs clash by the tree; return the lot of its jobs."""
    if tree[0] == "job":
        return 1 << tree[1]
    lots = [_add_turns(part, rows) for part in tree[1]]
    if tree[0] == "turn":
        for lot in lots:
            for job in jobs_of(lot):
                rows[job] = rows[job] | sum(lots) - lot
    return sum(lots)


def _formula_of(tree, names):
    """The formula of a tree: jobs take turns by "or", and run beside one another by "and"."""
    if tree[0] == "job":
        return "kind", names[tree[1]]
    word = "or" if tree[0] == "turn" else "and"
    return word, tuple([_formula_of(part, names) for part in tree[1]])
