"""How fast the frames of a plan can follow one another, if the jobs take different times."""

from math import gcd

from everframe.errors import NoJob
from everframe.flows import flow
from everframe.kinds import is_int
from everframe.orders import is_tie
from everframe.periods import closest_ring
from everframe.rings import refuse_standstill


def least_period(plan, lengths):
    """(top, bottom, ring, starts): the least period, a ring that needs it and a timetable with it."""
    took = _lengths_of(plan, lengths)
    refuse_standstill(plan)
    jobs = plan.web.jobs
    top, bottom, ring, starts = closest_ring(jobs, plan.ties, took)
    return (top, bottom, ring, tuple([starts[job] for job in jobs]))


def check_period(plan, lengths, thing):
    """Whether any value is what `least_period` may return."""
    took = _lengths_of(plan, lengths)
    if not isinstance(thing, tuple) or len(thing) != 4:
        return False
    top, bottom, ring, starts = thing
    if not is_int(top) or not is_int(bottom) or bottom < 1 or gcd(top, bottom) != 1:
        return False
    if not _is_ring(plan.ties, ring) or not _are_starts(starts, len(plan.web)):
        return False
    needed = sum([took[before] for before, _, _ in ring])
    if needed * bottom != -top * sum([total for _, _, total in ring]):
        return False
    start = {job: begin for job, begin in zip(plan.web.jobs, starts)}
    ends = {job: start[job] + bottom * took[job] for job in start}
    return all([ends[before] + top * total <= start[after] for before, after, total in plan.ties])


def first_starts(plan, lengths, *, frames):
    """Yield (job, frame, start) for the earliest starts of the steps of these frames."""
    took = _lengths_of(plan, lengths)
    refuse_standstill(plan)
    jobs = plan.web.jobs
    # in one frame, the starts of a timetable tell which steps have to end before others
    order = [job for _, job in sorted(zip(flow(plan)[1], jobs))]
    awaited = {job: [tie for tie in plan.ties if tie[1] == job] for job in order}
    ends = {}
    for frame in range(frames):
        starts = {}
        for job in order:
            due = [ends[before, frame + total] for before, _, total in awaited[job] if frame + total >= 0]
            starts[job] = max([0, *due])
            ends[job, frame] = starts[job] + took[job]
        for job in jobs:
            yield (job, frame, starts[job])


def _lengths_of(plan, lengths):
    """A dict from each job to its length."""
    unknown = sorted([name for name in lengths if name not in plan])
    if unknown:
        raise NoJob(unknown[0])
    return {job: lengths.get(job, 1) for job in plan.web.jobs}


def _is_ring(ties, thing):
    """Whether any value is a tuple of ties that form a ring."""
    if not isinstance(thing, tuple) or not thing or not all([is_tie(ties, tie) for tie in thing]):
        return False
    begun = [tie[0] for tie in thing]
    # the index -1 takes the first tie to the last one
    joined = all([thing[at - 1][1] == begun[at] for at in range(len(thing))])
    return joined and len(set(begun)) == len(begun)


def _are_starts(thing, many):
    """Whether any value is a tuple of so many integers, the least of which is 0."""
    if not isinstance(thing, tuple) or len(thing) != many or not all([is_int(start) for start in thing]):
        return False
    return min(thing) == 0
