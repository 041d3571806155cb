"""The orders of a plan: its rows, its waits, its depth, and the ties that follow from them."""

from everframe.errors import InvalidPlan
from everframe.kinds import is_int, within
from everframe.marks import marks_of, starts_of

MOST_BACK = 4
MOST_DEPTH = 4


class Orders:
    """Rows, waits and a depth that have been checked, with their ties; they never change."""

    def __init__(self, row_of, listed_waits, limit):
        self.row_of = row_of
        self.listed_waits = listed_waits
        self.limit = limit
        self.tied = ties_of(row_of, listed_waits, limit)
        # many orders are never asked for these, and many are asked again and again
        self._starts = None
        self._marks = None

    def starts(self):
        """For each job the most ties of a way in one frame to it, an empty dict with a standstill."""
        if self._starts is None:
            self._starts = starts_of(self.row_of, self.tied)
        return self._starts

    def marks(self):
        """The marks of the jobs; there must be no standstill."""
        if self._marks is None:
            self._marks = marks_of(self.row_of, self.tied, self.starts())
        return self._marks


def listed_rows(web):
    """A dict from each queue that has jobs, ascending, to its jobs in list order."""
    return {queue: web.listed(queue) for queue in web.queues}


def checked_rows(web, rows):
    """A dict from each queue that has jobs to its row."""
    listed = listed_rows(web)
    if rows is None:
        return listed
    if not isinstance(rows, dict) or not all([_is_queue(listed, key) for key in rows]):
        raise InvalidPlan("rows", -1)
    for queue in listed:
        if queue in rows and not _is_row(rows[queue], listed[queue]):
            raise InvalidPlan("rows", queue)
    return {queue: tuple(rows.get(queue, listed[queue])) for queue in listed}


def checked_waits(web, waits):
    """The ascending tuple of these waits."""
    if not isinstance(waits, (tuple, list)):
        raise InvalidPlan("waits", -1)
    for at, wait in enumerate(waits):
        if not is_wait(web, wait):
            raise InvalidPlan("waits", at)
    return tuple(sorted(set(waits)))


def checked_depth(depth):
    """The depth itself, if it is one."""
    if depth is not None and not within(depth, 1, MOST_DEPTH):
        raise InvalidPlan("depth", -1)
    return depth


def is_wait(web, value):
    """Whether any value is a wait between jobs of the web."""
    if not isinstance(value, tuple) or len(value) != 3:
        return False
    return value[0] in web and value[1] in web and within(value[2], 0, MOST_BACK)


def ties_of(rows, waits, depth):
    """The ascending tuple of the ties that count."""
    ties = [(of, job, -back) for job, of, back in waits]
    for row in [rows[queue] for queue in rows]:
        ties.extend([(x, y, 0) for x, y in zip(row, row[1:])])
        ties.append((row[-1], row[0], -1))
    if depth is not None:
        ties.extend([(rows[one][-1], rows[other][0], -depth) for one in rows for other in rows if one != other])
    # of the ties between two jobs the greatest comes last and replaces the others
    greatest = {tie[:2]: tie for tie in sorted(ties)}
    return tuple(greatest.values())


def is_tie(ties, value):
    """Whether any value is one of these ties."""
    if not isinstance(value, tuple) or len(value) != 3:
        return False
    # False is no lead, though it equals 0
    return is_int(value[2]) and value in ties


def _is_queue(listed, key):
    return within(key, 0, 3) and key in listed


def _is_row(row, jobs):
    """Whether any value is a tuple or list of these jobs, each once."""
    if not isinstance(row, (tuple, list)) or not all([isinstance(job, str) for job in row]):
        return False
    return sorted(list(row)) == sorted(list(jobs))
