"""Marks: the first step of a row that has to wait for a step of a job.

The steps of a row are numbered in the order in which they come: the one at a place of the
row has the number SPAN * frame + place. The mark of a job in a row is the number of the
first step of the row that has to wait for the step of the job in frame 0; it is NEVER, or
more, if there is none. All leads follow from the marks.
"""

SPAN = 16
# far behind all steps that have to wait for a step of frame 0
NEVER = 1048576


class Marks:
    """The marks of all jobs of a plan without a standstill.

    `spot` has the queue and the place of each job, `behind` for each queue the marks of all
    jobs in its row.
    """

    def __init__(self, spot, behind):
        self.spot = spot
        self.behind = behind

    def lead(self, of, job):
        """The lead of one job on another one, None if there is no way."""
        queue, at = self.spot[job]
        mark = self.behind[queue][of]
        return None if mark >= NEVER else (at - mark) // SPAN

    def follows(self, of, job, back):
        """Whether the lead of one job on another one is at least -back."""
        queue, at = self.spot[job]
        return self.behind[queue][of] <= at + SPAN * back

    def with_one_more(self, job, of, back):
        """The marks if one job also has to wait for another one, and there is still no standstill."""
        queue, at = self.spot[job]
        # for the jobs that lead to the other one, how much later a step of this job waits for them
        later = {one: SPAN * (back - self.lead(one, of)) for one in self.spot if self.lead(one, of) is not None}
        later[of] = SPAN * back
        behind = {}
        for other, row in self.behind.items():
            mark = at if other == queue else row[job]
            behind[other] = {one: min(row[one], mark + later.get(one, NEVER)) for one in row}
        return Marks(self.spot, behind)


def starts_of(rows, ties):
    """For each job the most ties of a way in one frame to it, an empty dict with a standstill."""
    # no lead is above 0, so a standstill has only ties with the lead 0
    links = [(before, after) for before, after, total in ties if total == 0]
    starts = {job: 0 for queue in rows for job in rows[queue]}
    most = len(starts)
    # without a standstill no way has as many ties as there are jobs
    for _ in range(most):
        changed = False
        for before, after in links:
            if starts[before] >= starts[after]:
                starts[after] = starts[before] + 1
                changed = True
        if not changed:
            return starts
    return {}


def marks_of(rows, ties, starts):
    """The marks of the jobs, by the rows, the ties and the starts of a plan without a standstill."""
    spot = {job: (queue, at) for queue in rows for at, job in enumerate(rows[queue])}
    # what comes later in a frame has its marks first, so that little has to be corrected
    backwards = sorted(ties, key=lambda tie: -starts[tie[0]])
    links = [(before, after, -SPAN * total) for before, after, total in backwards]
    return Marks(spot, {queue: _marks_in(queue, spot, links) for queue in rows})


def _marks_in(queue, spot, links):
    """The marks of all jobs in the row of one queue."""
    marks = {job: NEVER for job in spot}
    for before, after, later in links:
        if spot[after][0] == queue and spot[after][1] + later < marks[before]:
            marks[before] = spot[after][1] + later
    changed = True
    while changed:
        changed = False
        for before, after, later in links:
            if marks[after] + later < marks[before]:
                marks[before] = marks[after] + later
                changed = True
    return marks
