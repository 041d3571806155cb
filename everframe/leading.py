"""The leads of a plan, and what follows from them."""

from everframe.errors import NoJob
from everframe.needs import needs
from everframe.rings import refuse_standstill
from everframe.ways import least_way

# A way with the lead total and some ties has the worth WEIGHT * total - ties: of two ways the
# better one is worth more, as no best way has as many as WEIGHT ties.
WEIGHT = 64
NOWHERE = -1000000


def lead(plan, of, job):
    """The lead of one job on another, None if there is no way."""
    _ask(plan, [of, job])
    return plan.marks().lead(of, job)


def way(plan, of, job):
    """A way with this lead and the fewest ties, of several the least; None if there is none."""
    _ask(plan, [of, job])
    total = plan.marks().lead(of, job)
    # no best way comes to a job twice
    return None if total is None else least_way(plan.ties, of, job, total, len(plan.web))


def lead_table(plan):
    """The ascending tuple of (of, job, lead, steps, last)."""
    _ask(plan, [])
    jobs = sorted(plan.web.jobs)
    place = {job: at for at, job in enumerate(jobs)}
    links = [(place[tie[0]], place[tie[1]], WEIGHT * tie[2] - 1, tie) for tie in plan.ties]
    rows = []
    for at, of in enumerate(jobs):
        worths, lasts = _best_from(links, at, len(jobs))
        found = [(job, -worth, last) for job, worth, last in zip(jobs, worths, lasts) if last is not None]
        rows.extend([(of, job, -(less // WEIGHT), less % WEIGHT, last) for job, less, last in found])
    return tuple(rows)


def leads_between(plan):
    """A dict from each two jobs with a way from the first to the second to its lead."""
    _ask(plan, [])
    jobs = sorted(plan.web.jobs)
    marks = plan.marks()
    leads = {(of, job): marks.lead(of, job) for of in jobs for job in jobs}
    return {pair: leads[pair] for pair in leads if leads[pair] is not None}


def unmet(plan):
    """The ascending tuple of the needs that do not hold."""
    _ask(plan, [])
    return tuple(unmet_needs(plan.web, plan.marks()))


def unmet_needs(web, marks):
    """The list of the needs of the web that do not hold with these marks, ascending."""
    return [need for need in needs(web) if not marks.follows(need[0], need[1], need[2])]


def closed_lot(plan, of, frame, upto):
    """The ascending tuple of the steps up to this frame that can be done before (of, frame)."""
    _ask(plan, [of])
    leads = {job: plan.marks().lead(of, job) for job in sorted(plan.web.jobs)}
    leads[of] = 0
    lot = []
    for job in leads:
        last = upto if leads[job] is None else min(upto, frame - leads[job] - 1)
        lot.extend([(job, at) for at in range(last + 1)])
    return tuple(lot)


def _ask(plan, names):
    for name in names:
        if name not in plan:
            raise NoJob(name)
    refuse_standstill(plan)


def _best_from(links, of, many):
    """For each job the worth of the best ways from one job, and the last tie of such a way; None if there is none."""
    worths = [NOWHERE] * many
    lasts = [None] * many
    for before, after, step, tie in links:
        if before == of:
            worths[after] = step
            lasts[after] = tie
    changed = True
    # without a standstill each ring costs a lead, so this comes to an end
    while changed:
        changed = False
        for before, after, step, tie in links:
            if worths[before] + step > worths[after]:
                worths[after] = worths[before] + step
                lasts[after] = tie
                changed = True
    return (worths, lasts)
