"""The leads of a plan, and what follows from them."""

from everframe.errors import NoJob
from everframe.needs import needs
from everframe.rings import refuse_standstill
from everframe.ways import least_way


def lead(plan, of, job):
    """The lead of one job on another, None if there is no way."""
    _ask(plan, [of, job])
    found = _best_from(plan.ties, of)
    return found[job][0] if job in found else None


def way(plan, of, job):
    """A way with this lead and the fewest ties, of several the least; None if there is none."""
    _ask(plan, [of, job])
    found = _best_from(plan.ties, of)
    if job not in found:
        return None
    return least_way(plan.ties, of, job, found[job][0], found[job][1])


def lead_table(plan):
    """The ascending tuple of (of, job, lead, steps, last)."""
    _ask(plan, [])
    rows = []
    for of in sorted(plan.web.jobs):
        found = _best_from(plan.ties, of)
        rows.extend([(of, job, *found[job]) for job in sorted(list(found))])
    return tuple(rows)


def leads_between(plan):
    """A dict from each two jobs with a way from the first to the second to its lead."""
    return {(of, job): total for of, job, total, _, _ in lead_table(plan)}


def unmet(plan):
    """The ascending tuple of the needs that do not hold."""
    leads = leads_between(plan)
    return tuple([need for need in needs(plan.web) if not _holds(need, leads)])


def closed_lot(plan, of, frame, upto):
    """The ascending tuple of the steps up to this frame that can be done before (of, frame)."""
    _ask(plan, [of])
    leads = {job: found[0] for job, found in _best_from(plan.ties, of).items()}
    leads[of] = 0
    lot = []
    for job in sorted(plan.web.jobs):
        last = min(upto, frame - leads[job] - 1) if job in leads else upto
        lot.extend([(job, at) for at in range(last + 1)])
    return tuple(lot)


def _ask(plan, names):
    for name in names:
        if name not in plan:
            raise NoJob(name)
    refuse_standstill(plan)


def _holds(need, leads):
    before, after, back = need
    return (before, after) in leads and leads[before, after] >= -back


def _best_from(ties, of):
    """For each job that a way leads to: its lead, the fewest ties and the last tie of a best way."""
    best = {tie[1]: (tie[2], 1, tie) for tie in ties if tie[0] == of}
    changed = True
    # without a standstill each ring costs a lead, so this comes to an end
    while changed:
        changed = False
        for tie in ties:
            if tie[0] in best and _betters(best, tie):
                so_far = best[tie[0]]
                best[tie[1]] = (so_far[0] + tie[2], so_far[1] + 1, tie)
                changed = True
    return best


def _betters(best, tie):
    """Whether the best way to where the tie begins, and then the tie, is better at its end."""
    before, after, total = tie
    if after not in best:
        return True
    gain = best[before][0] + total - best[after][0]
    return gain > 0 or (gain == 0 and best[before][1] + 1 < best[after][1])
