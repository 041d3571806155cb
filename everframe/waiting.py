"""Which waits follow from others, which are needed, and which would save slots."""

from everframe.costs import costs_between
from everframe.errors import InvalidPlan, NotShareable, TooMany
from everframe.fewest import fewest_count
from everframe.leading import leads_between
from everframe.needs import needs
from everframe.orders import MOST_BACK, is_wait, ties_of
from everframe.plans import Plan
from everframe.rings import refuse_standstill
from everframe.slots import fewest_slots
from everframe.ways import least_way

MOST_JOBS = 8


def follows(plan, wait):
    """A way that shows that the wait follows from the other ties, None if it does not."""
    refuse_standstill(plan)
    if not is_wait(plan.web, wait):
        raise InvalidPlan("waits", 0)
    return _way_without(plan, wait)


def least_waits(plan):
    """The ascending tuple of the waits that do not follow."""
    refuse_standstill(plan)
    return tuple([wait for wait in plan.waits if _way_without(plan, wait) is None])


def needed_waits(web, *, rows=None, depth=None):
    """The waits without which some need does not hold, for these rows and this depth."""
    waits = [(after, before, back) for before, after, back in needs(web)]
    return least_waits(Plan(web, rows=rows, waits=waits, depth=depth))


def planned(web, *, rows=None, depth=2):
    """The plan with the needed waits and the fewest slots."""
    waits = needed_waits(web, rows=rows, depth=depth)
    plan = Plan(web, rows=rows, waits=waits, depth=depth)
    found = fewest_slots(plan)
    if found[0] != "slots":
        raise NotShareable(found[1], found[2])
    plan.set_sharing(found[2])
    return plan


def savings(plan):
    """Yield (slots, wait) for each further wait with which fewer slots are enough."""
    leads = leads_between(plan)
    if len(plan.web) > MOST_JOBS:
        raise TooMany(MOST_JOBS)
    many = fewest_count(plan.web, costs_between(plan.web, leads))
    counts = _counts_with(plan, leads)
    saving = [(counts[wait], wait) for wait in counts if _saves(counts[wait], many)]
    for slots, wait in sorted(saving):
        yield (slots, wait)


def _way_without(plan, wait):
    job, of, back = wait
    others = [one for one in plan.waits if one != wait]
    ties = ties_of(plan.rows, others, plan.depth)
    return least_way(ties, of, job, -back, len(plan.web))


def _saves(with_wait, without):
    return with_wait is not None and (without is None or with_wait < without)


def _counts_with(plan, leads):
    """For each wait that changes the leads, and does not stand still, the fewest slots with it."""
    web = plan.web
    counts = {}
    # many waits give the same costs, and only these tell how many slots are enough
    known = {}
    for job, of, back in _waits_of(web.jobs):
        if not _matters(leads, job, of, back):
            continue
        costs = costs_between(web, _leads_with(web, leads, job, of, back))
        told = tuple(list(costs.values()))
        if told not in known:
            known[told] = fewest_count(web, costs)
        counts[job, of, back] = known[told]
    return counts


def _waits_of(jobs):
    return [(job, of, back) for job in jobs for of in jobs for back in range(MOST_BACK + 1)]


def _matters(leads, job, of, back):
    """Whether a wait neither follows nor makes a standstill."""
    if (of, job) in leads and leads[of, job] >= -back:
        return False
    return job != of and ((job, of) not in leads or leads[job, of] - back < 0)


def _leads_with(web, leads, job, of, back):
    """The leads with one more wait; no best way takes it twice, as all rings are below 0."""
    heads = [(one, leads[one, of]) for one in web.jobs if (one, of) in leads and one != of]
    tails = [(one, leads[job, one]) for one in web.jobs if (job, one) in leads and one != job]
    found = {pair: leads[pair] for pair in leads}
    for one, total in [(of, 0), *heads]:
        for other, further in [(job, 0), *tails]:
            lead = total - back + further
            found[one, other] = max(lead, found.get((one, other), lead))
    return found
