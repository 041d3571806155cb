"""Whether a value is a timetable or a standstill of a plan."""

from everframe.errors import InvalidCertificate
from everframe.kinds import is_int
from everframe.orders import is_tie


def check_flow(plan, thing):
    """True for what `flow` may return; otherwise InvalidCertificate tells what is wrong."""
    if _is_timetable(thing):
        _check_timetable(plan, thing[1], thing[2])
    elif _is_ring(thing):
        _check_ring(plan.ties, thing[1])
    else:
        raise InvalidCertificate("shape", -1)
    return True


def _is_timetable(thing):
    if not isinstance(thing, tuple) or len(thing) != 3:
        return False
    return thing[0] == "timetable" and isinstance(thing[1], tuple)


def _is_ring(thing):
    if not isinstance(thing, tuple) or len(thing) != 2:
        return False
    return thing[0] == "ring" and isinstance(thing[1], tuple) and len(thing[1]) > 0


def _check_timetable(plan, starts, period):
    for at, start in enumerate(starts):
        if not is_int(start) or start < 0:
            raise InvalidCertificate("start", at)
    jobs = plan.web.jobs
    if len(starts) != len(jobs):
        raise InvalidCertificate("start", len(jobs))
    if not is_int(period) or period < 1:
        raise InvalidCertificate("period", -1)
    start_of = {job: start for job, start in zip(jobs, starts)}
    for at, (before, after, lead) in enumerate(plan.ties):
        if start_of[before] + 1 + period * lead > start_of[after]:
            raise InvalidCertificate("tie", at)


def _check_ring(ties, ring):
    for at, tie in enumerate(ring):
        if not is_tie(ties, tie) or tie[2] != 0:
            raise InvalidCertificate("ring", at)
    begun = []
    for at, tie in enumerate(ring):
        # the index -1 takes the first tie to the last one
        if tie[0] != ring[at - 1][1] or tie[0] in begun:
            raise InvalidCertificate("ring", at)
        begun.append(tie[0])
