"""Standstills: rings of ties that all have the lead 0."""

from everframe.errors import Standstill


def find_ring(plan):
    """A standstill of the plan, None if there is none."""
    if plan.starts():
        return None
    # no lead is above 0, so each tie of such a ring has the lead 0
    ties = [tie for tie in plan.ties if tie[2] == 0]
    stuck = list(plan.web.jobs)
    entered = _entered(stuck, ties)
    while len(entered) < len(stuck):
        stuck = entered
        entered = _entered(stuck, ties)
    return _ring_among(stuck, ties)


def refuse_standstill(plan):
    """Raise Standstill if the plan has one."""
    ring = find_ring(plan)
    if ring is not None:
        raise Standstill(ring)


def ring_back(job, entry):
    """The ring to which one comes when one goes back from a job, always along its entry."""
    trail = []
    while job not in trail:
        trail.append(job)
        job = entry[job][0]
    backwards = [entry[one] for one in trail[trail.index(job):]]
    return tuple(backwards[::-1])


def _entered(jobs, ties):
    """Those of these jobs to which a tie from one of them leads."""
    ends = [after for before, after, _ in ties if before in jobs]
    return [job for job in jobs if job in ends]


def _ring_among(jobs, ties):
    """A ring among jobs to each of which a tie from one of them leads."""
    return ring_back(jobs[0], {tie[1]: tie for tie in ties if tie[0] in jobs and tie[1] in jobs})
