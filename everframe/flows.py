"""Timetables, and the rings because of which there is none."""

from everframe.rings import find_ring


def flow(plan):
    """("timetable", starts, period) of the plan, or ("ring", ties) with a standstill."""
    ring = find_ring(plan)
    if ring is not None:
        return ("ring", ring)
    # a ring without a standstill has a tie with a lead below 0 and at most as
    # many ties as there are jobs, so this period leaves it time to come around
    period = len(plan.web)
    starts = _starts(plan, period)
    return ("timetable", tuple([starts[job] for job in plan.web.jobs]), period)


def _starts(plan, period):
    """The earliest starts that keep all ties."""
    starts = {job: 0 for job in plan.web.jobs}
    late = plan.ties
    while late:
        for before, after, lead in plan.ties:
            starts[after] = max(starts[after], starts[before] + 1 + period * lead)
        late = [tie for tie in plan.ties if not _keeps(starts, tie, period)]
    return starts


def _keeps(starts, tie, period):
    before, after, lead = tie
    return starts[before] + 1 + period * lead <= starts[after]
