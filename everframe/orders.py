"""The orders of a plan: its rows, its waits, its depth, and the ties that follow from them."""

from everframe.errors import InvalidPlan
from everframe.kinds import is_int, within

MOST_BACK = 4
MOST_DEPTH = 4


def listed_rows(web):
    """A dict from each queue that has jobs, ascending, to its jobs in list order."""
    rows = {queue: [] for queue in web.queues}
    for job in web.jobs:
        rows[web.queue_of(job)].append(job)
    return {queue: tuple(rows[queue]) for queue in rows}


def checked_rows(web, rows):
    """A dict from each queue that has jobs to its row."""
    listed = listed_rows(web)
    if rows is None:
        return listed
    if not isinstance(rows, dict) or not all([_is_queue(listed, key) for key in rows]):
        raise InvalidPlan("rows", -1)
    for queue in listed:
        if queue in rows and not _is_row(rows[queue], listed[queue]):
            raise InvalidPlan("rows", queue)
    return {queue: tuple(rows.get(queue, listed[queue])) for queue in listed}


def checked_waits(web, waits):
    """The ascending tuple of these waits."""
    if not isinstance(waits, (tuple, list)):
        raise InvalidPlan("waits", -1)
    for at, wait in enumerate(waits):
        if not is_wait(web, wait):
            raise InvalidPlan("waits", at)
    return tuple(sorted(set(waits)))


def checked_depth(depth):
    """The depth itself, if it is one."""
    if depth is not None and not within(depth, 1, MOST_DEPTH):
        raise InvalidPlan("depth", -1)
    return depth


def is_wait(web, value):
    """Whether any value is a wait between jobs of the web."""
    if not isinstance(value, tuple) or len(value) != 3:
        return False
    return value[0] in web and value[1] in web and within(value[2], 0, MOST_BACK)


def ties_of(rows, waits, depth):
    """The ascending tuple of the ties that count."""
    ties = [(of, job, -back) for job, of, back in waits]
    for row in [rows[queue] for queue in rows]:
        ties.extend([(x, y, 0) for x, y in zip(row, row[1:])])
        ties.append((row[-1], row[0], -1))
    if depth is not None:
        ties.extend(_depth_ties(rows, depth))
    # of the ties between two jobs the greatest comes last and replaces the others
    greatest = {(before, after): lead for before, after, lead in sorted(ties)}
    return tuple([(before, after, greatest[before, after]) for before, after in greatest])


def is_tie(ties, value):
    """Whether any value is one of these ties."""
    if not isinstance(value, tuple) or len(value) != 3:
        return False
    # False is no lead, though it equals 0
    return is_int(value[2]) and value in ties


def _depth_ties(rows, depth):
    pairs = [(one, other) for one in rows for other in rows if one != other]
    return [(rows[one][-1], rows[other][0], -depth) for one, other in pairs]


def _is_queue(listed, key):
    return within(key, 0, 3) and key in listed


def _is_row(row, jobs):
    """Whether any value is a tuple or list of these jobs, each once."""
    if not isinstance(row, (tuple, list)) or not all([isinstance(job, str) for job in row]):
        return False
    return sorted(list(row)) == sorted(list(jobs))
