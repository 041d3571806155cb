"""Timetables, and the rings because of which there is none."""

from everframe.rings import find_ring


def flow(plan):
    """("timetable", starts, period) of the plan, or ("ring", ties) with a standstill."""
    ring = find_ring(plan)
    if ring is not None:
        return ("ring", ring)
    # no way in one frame has as many ties as there are jobs, so with this period
    # all steps of a frame begin ahead of those of the next one
    starts = plan.starts()
    return ("timetable", tuple([starts[job] for job in plan.web.jobs]), len(plan.web))
