"""Prompt timetables of jobs that clash, and their ends."""

from asmany.basics import MOST_IN_POOL, are_numbers, is_number, is_number_to
from asmany.clashes import clash_tree, jobs_of, near_of, row_of_four
from asmany.errors import InvalidNumber, Refused

MOST_MOVED_JOBS = 8
MOST_LEAST = 10 ** 9


def is_prompt(clashes, lengths, value):
    """Whether any value is a prompt timetable."""
    _check_lengths(clashes, lengths)
    if not are_numbers(value, clashes.jobs):
        return False
    spans = [(start, start + length) for start, length in zip(value, lengths)]
    for job, near in enumerate(near_of(clashes)):
        beside = sorted([spans[other] for other in jobs_of(near) if lengths[other] > 0])
        if not _is_prompt_job(spans[job], beside):
            return False
    return True


def prompt_starts(clashes, lengths, order):
    """The prompt timetable in which waiting jobs are gone through in a sequence."""
    _check_lengths(clashes, lengths)
    if not are_numbers(order, clashes.jobs) or sorted(order) != list(range(clashes.jobs)):
        raise Refused("order")
    near = near_of(clashes)
    starts = [0] * clashes.jobs
    waiting = [job for job in order if lengths[job] > 0]
    ends = {}
    moment = 0
    while waiting:
        ends = {job: ends[job] for job in ends if ends[job] > moment}
        later = []
        for job in waiting:
            if any([near[job] >> other & 1 for other in ends]):
                later.append(job)
            else:
                starts[job] = moment
                ends[job] = moment + lengths[job]
        waiting = later
        moment = min(list(ends.values()))
    return tuple(starts)


def prompt_ends(clashes, lengths):
    """The lot of the ends of all prompt timetables."""
    _check_lengths(clashes, lengths)
    jobs = [job for job in range(clashes.jobs) if lengths[job] > 0]
    if len(jobs) > MOST_MOVED_JOBS:
        raise Refused("wide")
    near = near_of(clashes)
    return tuple(_ends_from(near, lengths, sum([1 << job for job in jobs]), (), {}))


def remaining(clashes, lengths, starts, moment):
    """How much of its length each job runs from a moment on."""
    if not is_prompt(clashes, lengths, starts):
        raise Refused("starts")
    if not is_number(moment):
        raise InvalidNumber("moment")
    return tuple([
        min(length, max(start + length - moment, 0)) for start, length in zip(starts, lengths)
    ])


def sure_end(clashes, lengths):
    """The end of all prompt timetables of calm clashes."""
    return _heaviest(_calm_tree(clashes, lengths), lengths)[0]


def heaviest_lot(clashes, lengths):
    """Some lot of jobs each two of which clash, with the greatest sum of lengths."""
    return tuple(sorted(_heaviest(_calm_tree(clashes, lengths), lengths)[1]))


def latest_starts(clashes, lengths):
    """The greatest start of each job in a prompt timetable of calm clashes."""
    found = [0] * clashes.jobs
    _put_latest(_calm_tree(clashes, lengths), lengths, 0, found)
    return tuple(found)


def two_ends(clashes, *, least=0):
    """Lengths and two prompt timetables with different ends, None if the clashes are calm."""
    if not is_number_to(least, MOST_LEAST):
        raise InvalidNumber("least")
    row = row_of_four(clashes)
    if row is None:
        return None
    # Each of the four runs longer than all other jobs together: so these are never in their way.
    lengths = [least] * clashes.jobs
    for job in row:
        lengths[job] = least * clashes.jobs + 1
    a, b, c, d = row
    others = [job for job in range(clashes.jobs) if job not in row]
    starts = prompt_starts(clashes, tuple(lengths), (a, d, b, c, *others))
    other = prompt_starts(clashes, tuple(lengths), (a, c, b, d, *others))
    return tuple(lengths), starts, other


def _check_lengths(clashes, lengths):
    """Raise InvalidNumber unless there is a length for each job."""
    if not are_numbers(lengths, clashes.jobs) or max(lengths) > MOST_IN_POOL:
        raise InvalidNumber("lengths")


def _is_prompt_job(span, beside):
    """Whether a job waits and runs as it must beside the jobs that clash with it, in their order."""
    start, end = span
    if start == end:
        return start == 0
    covered = 0
    for one, other in beside:
        if one < end and start < other:
            return False
        if one <= covered:
            covered = max(covered, other)
    return start <= covered


def _ends_from(near, lengths, waiting, running, known):
    """All numbers of moments until the end, ascending, when some jobs wait and others still run.

    The waiting jobs are a mask, the running ones pairs of a job and what is left of its length.
    """
    if (waiting, running) in known:
        return known[(waiting, running)]
    busy = 0
    for job, _ in running:
        busy = busy | near[job]
    found = []
    for started in _greatest_lots(near, waiting & ~busy):
        now = sorted([*running, *[(job, lengths[job]) for job in jobs_of(started)]])
        step = min([rest for _, rest in now]) if now else 0
        if waiting == started:
            found.append(max([rest for _, rest in now]) if now else 0)
        else:
            still = tuple([(job, rest - step) for job, rest in now if rest > step])
            found.extend([step + more for more in _ends_from(near, lengths, waiting & ~started, still, known)])
    known[(waiting, running)] = sorted(set(found))
    return known[(waiting, running)]


def _greatest_lots(near, free):
    """All lots of free jobs, no two of which clash, to which no free job can be added."""
    lots = []
    for lot in _parts_of_mask(free):
        clashing = 0
        for job in jobs_of(lot):
            clashing = clashing | near[job]
        if clashing & free == free & ~lot:
            lots.append(lot)
    return lots


def _parts_of_mask(mask):
    """All masks with some bits of a mask."""
    parts = [0]
    for bit in jobs_of(mask):
        parts = [*parts, *[part | 1 << bit for part in parts]]
    return parts


def _calm_tree(clashes, lengths):
    """The tree of calm clashes, when the lengths are checked."""
    _check_lengths(clashes, lengths)
    tree = clash_tree(clashes)
    if tree is None:
        raise Refused("row")
    return tree


def _heaviest(tree, lengths):
    """The greatest sum of the lengths of jobs of a tree each two of which clash, and these jobs."""
    if tree[0] == "job":
        return lengths[tree[1]], [tree[1]]
    rows = [_heaviest(part, lengths) for part in tree[1]]
    if tree[0] == "beside":
        return max(rows)
    return sum([row[0] for row in rows]), [job for row in rows for job in row[1]]


def _put_latest(tree, lengths, around, found):
    """Put into the list the latest starts of the jobs of a tree, with so much around it."""
    if tree[0] == "job":
        found[tree[1]] = around if lengths[tree[1]] > 0 else 0
    elif tree[0] == "beside":
        for part in tree[1]:
            _put_latest(part, lengths, around, found)
    else:
        sums = [_heaviest(part, lengths)[0] for part in tree[1]]
        for part, one in zip(tree[1], sums):
            _put_latest(part, lengths, around + sum(sums) - one, found)
