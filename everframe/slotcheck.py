"""Whether a value is what `fewest_slots` may return."""

from everframe.costs import costs_between
from everframe.errors import InvalidCertificate
from everframe.kinds import is_int
from everframe.rings import refuse_standstill
from everframe.sharings import is_sharing
from everframe.verdicts import faults


def check_slots(plan, thing):
    """True for what `fewest_slots` may return; otherwise InvalidCertificate tells what is wrong."""
    refuse_standstill(plan)
    if not _is_told(thing):
        raise InvalidCertificate("shape", -1)
    if thing[0] == "slots":
        _check_count(plan, thing[1], thing[2], thing[3])
    elif thing[0] == "endless":
        _check_endless(plan, thing[1], thing[2], thing[3])
    else:
        _check_kept(plan.web, plan.marks(), thing[1], thing[2])
    return True


def _is_told(thing):
    """Whether any value is one of the three words with parts of the right kinds."""
    if not isinstance(thing, tuple) or len(thing) < 3:
        return False
    if thing[0] == "slots":
        return len(thing) == 4 and is_int(thing[1]) and isinstance(thing[2], tuple) and isinstance(thing[3], tuple)
    if not isinstance(thing[1], str) or not isinstance(thing[2], str):
        return False
    if thing[0] == "endless":
        return len(thing) == 4 and isinstance(thing[3], tuple)
    return thing[0] == "kept" and len(thing) == 3


def _check_count(plan, many, sharing, crowd):
    web = plan.web
    if not is_sharing(web, sharing):
        raise InvalidCertificate("sharing", -1)
    shared = plan.twin()
    shared.set_sharing(sharing)
    clashing = [web.buffers.index(fault[1]) for fault in list(faults(shared)) if fault[0] != "need"]
    if clashing:
        raise InvalidCertificate("clash", min(clashing))
    _check_crowd(web, costs_between(web, plan.marks()), crowd)
    counts = [count for count, _ in sharing]
    sizes = [last - first + 1 for _, first, last in crowd]
    if many != sum(counts) or many != sum(sizes):
        raise InvalidCertificate("fewest", -1)


def _check_crowd(web, costs, crowd):
    kept = web.facts.kept
    for at, (buffer, entry) in enumerate(zip(web.buffers, crowd)):
        if not _is_entry(buffer, buffer in kept, entry):
            raise InvalidCertificate("crowd", at)
        if buffer not in kept:
            others = [one for one in crowd[:at + 1] if one[0] not in kept and web.size(one[0]) == web.size(buffer)]
            if not all([_go_together(costs, entry, one) for one in others]):
                raise InvalidCertificate("crowd", at)
    if len(crowd) != len(web.buffers):
        raise InvalidCertificate("crowd", len(web.buffers))


def _is_entry(buffer, is_kept, entry):
    """Whether any value is a triple of this buffer."""
    if not isinstance(entry, tuple) or len(entry) != 3 or entry[0] != buffer:
        return False
    if not is_int(entry[1]) or not is_int(entry[2]):
        return False
    if is_kept:
        return entry[1] == 0 and entry[2] == 0
    return entry[1] >= 0 and entry[2] >= entry[1] - 1


def _go_together(costs, one, other):
    return _is_unordered(costs, one, other) and _is_unordered(costs, other, one)


def _is_unordered(costs, one, other):
    """Whether no instance of one buffer is over before an instance of the other one begins."""
    worth = costs[one[0]][other[0]]
    return worth is None or other[2] - one[1] < worth


def _check_endless(plan, buffer, user, jobs):
    web = plan.web
    if buffer not in web.buffers or buffer in web.facts.kept:
        raise InvalidCertificate("buffer", -1)
    if user not in [job for job, _, _ in web.uses_of(buffer)]:
        raise InvalidCertificate("user", -1)
    if not _are_jobs(web, jobs) or web.maker(buffer) not in jobs or user in jobs:
        raise InvalidCertificate("jobs", -1)
    if any([before not in jobs for before, after, _ in plan.ties if after in jobs]):
        raise InvalidCertificate("jobs", -1)


def _are_jobs(web, jobs):
    """Whether a tuple of any values has only jobs, ascending."""
    return all([job in web for job in jobs]) and list(jobs) == sorted(set(jobs))


def _check_kept(web, marks, buffer, user):
    if buffer not in web.facts.kept:
        raise InvalidCertificate("buffer", -1)
    maker = web.maker(buffer)
    uses = [(job, age) for job, age, _ in web.uses_of(buffer) if job == user]
    if all([marks.follows(job, maker, 1 - age) for job, age in uses]):
        raise InvalidCertificate("user", -1)
