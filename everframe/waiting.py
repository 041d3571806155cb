"""Which waits follow from others, which are needed, and which would save slots."""

from everframe.costs import costs_between
from everframe.errors import InvalidPlan, NotShareable, TooMany
from everframe.fewest import fewest_count
from everframe.needs import needs
from everframe.orders import MOST_BACK, is_wait, ties_of
from everframe.plans import Plan
from everframe.rings import refuse_standstill
from everframe.slots import fewest_slots
from everframe.ways import least_way

MOST_JOBS = 8


def follows(plan, wait):
    """A way that shows that the wait follows from the other ties, None if it does not."""
    refuse_standstill(plan)
    if not is_wait(plan.web, wait):
        raise InvalidPlan("waits", 0)
    job, of, back = wait
    others = [one for one in plan.waits if one != wait]
    return least_way(ties_of(plan.rows, others, plan.depth), of, job, -back, len(plan.web))


def least_waits(plan):
    """The ascending tuple of the waits that do not follow."""
    refuse_standstill(plan)
    marks = plan.marks()
    fixed = ties_of(plan.rows, (), plan.depth)
    return tuple([wait for wait in plan.waits if not _is_spare(plan.ties, fixed, marks, wait)])


def needed_waits(web, *, rows=None, depth=None):
    """The waits without which some need does not hold, for these rows and this depth."""
    waits = [(after, before, back) for before, after, back in needs(web)]
    return least_waits(Plan(web, rows=rows, waits=waits, depth=depth))


def planned(web, *, rows=None, depth=2):
    """The plan with the needed waits and the fewest slots."""
    waits = needed_waits(web, rows=rows, depth=depth)
    plan = Plan(web, rows=rows, waits=waits, depth=depth)
    found = fewest_slots(plan)
    if found[0] != "slots":
        raise NotShareable(found[1], found[2])
    plan.set_sharing(found[2])
    return plan


def savings(plan):
    """Yield (slots, wait) for each further wait with which fewer slots are enough."""
    refuse_standstill(plan)
    if len(plan.web) > MOST_JOBS:
        raise TooMany(MOST_JOBS)
    many = fewest_count(plan.web, costs_between(plan.web, plan.marks()))
    counts = _counts_with(plan.web, plan.marks())
    saving = [(counts[wait], wait) for wait in counts if _saves(counts[wait], many)]
    for slots, wait in sorted(saving):
        yield (slots, wait)


def _is_spare(ties, fixed, marks, wait):
    """Whether a wait of the plan follows from the other ties; fixed are those that no wait gives."""
    job, of, back = wait
    if (of, job, -back) in fixed or marks.follows(of, job, back - 1):
        return True
    # no other way with this lead takes the tie of the wait, as it would come around in a ring before
    onward = [(after, total) for before, after, total in ties if before == of and after != job]
    return any([marks.follows(after, job, back + total) for after, total in onward])


def _saves(with_wait, without):
    return with_wait is not None and (without is None or with_wait < without)


def _counts_with(web, marks):
    """For each wait that changes the leads, and does not stand still, the fewest slots with it."""
    counts = {}
    # many waits give the same costs, and only these tell how many slots are enough
    known = {}
    for job, of, back in _waits_of(web.jobs):
        if not _matters(marks, job, of, back):
            continue
        costs = costs_between(web, marks.with_one_more(job, of, back))
        told = tuple([worth for r in costs for worth in costs[r].values()])
        if told not in known:
            known[told] = fewest_count(web, costs)
        counts[job, of, back] = known[told]
    return counts


def _waits_of(jobs):
    return [(job, of, back) for job in jobs for of in jobs for back in range(MOST_BACK + 1)]


def _matters(marks, job, of, back):
    """Whether a wait neither follows nor makes a standstill."""
    return job != of and not marks.follows(of, job, back) and not marks.follows(job, of, -back)
