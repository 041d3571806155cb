"""Slow verdicts, faults and slots of plans, by the slow leads of the oracles and nothing else."""

import itertools

from everframe.plans import Plan
from tests import oracles


def same_plan(plan):
    """A plan that is made anew from the parts of another one."""
    return Plan(plan.web, rows=plan.rows, waits=plan.waits, depth=plan.depth, sharing=plan.sharing)


def word_of(web, buffer):
    """The word with which a buffer is made."""
    return [use[0] for use in web.uses(web.maker(buffer)) if use[1] == buffer and use[0] != "read"][0]


def kept(web):
    """The buffers that are made by a keep."""
    return [name for name in web.buffers if word_of(web, name) == "keep"]


def costs(plan, leads):
    """A dict from pairs of buffers to their costs, as point 16 tells them."""
    found = {}
    for r, s in itertools.product(plan.web.buffers, repeat=2):
        uses = [(job, age) for job, age in oracles.life_uses(plan.web, r, s)]
        totals = [(age, leads.get((job, plan.web.maker(s)))) for job, age in uses]
        if any(total is None for _, total in totals):
            found[r, s] = None
        else:
            found[r, s] = max(age - total for age, total in totals)
            if r == s:
                found[r, s] = max(1, found[r, s])
    return found


def faults(plan):
    """The faults of a plan without a standstill, as stage 8 lists them."""
    leads = oracles.leads(plan)
    found = []
    for before, after, back in oracles.needs(plan.web):
        if leads.get((before, after)) is None or leads[before, after] < -back:
            found.append(("need", before, after, back))
    for name in kept(plan.web):
        group = [(count, members) for count, members in plan.sharing if name in [one for one, _ in members]][0]
        if group[0] > 1 or len(group[1]) > 1:
            found.append(("keep", name))
    found.extend(("clash", *one) for one in oracles.nearest_clashes(plan, costs(plan, leads)))
    return found


def status(plan):
    """The first item of the verdict."""
    if oracles.stands_still(plan):
        return "still"
    return "wrong" if faults(plan) else "right"


def is_verdict(plan, thing):
    """Whether this is a verdict on the plan, by the slow run and the slow check of tables."""
    word, shown = thing
    if word != status(plan):
        return False
    if word == "still":
        return oracles.is_ring(plan, shown)
    if word == "wrong":
        return oracles.shows_fault(plan, shown)
    return oracles.fault_of_table(plan, shown) is None


def is_slots(plan, thing):
    """Whether `fewest_slots` may return this, for a plan without a standstill."""
    web, leads = plan.web, oracles.leads(plan)
    worths = costs(plan, leads)
    for buffer in kept(web):
        if worths[buffer, buffer] is None or worths[buffer, buffer] > 1:
            late = [
                job for job, age, _ in web.uses_of(buffer)
                if leads.get((job, web.maker(buffer))) is None or age - leads[job, web.maker(buffer)] > 1
            ]
            return thing == ("kept", buffer, late[0])
    for buffer in web.buffers:
        if worths[buffer, buffer] is None:
            maker = web.maker(buffer)
            loose = [job for job, _, _ in web.uses_of(buffer) if (job, maker) not in leads]
            ahead = {job for job in web.jobs if (job, maker) in leads} | {maker}
            return thing == ("endless", buffer, loose[0], tuple(sorted(ahead)))
    return _is_count(plan, worths, thing)


def _is_count(plan, worths, thing):
    word, many, sharing, crowd = thing
    web = plan.web
    free = [name for name in web.buffers if name not in kept(web)]
    shared = Plan(web, rows=plan.rows, waits=plan.waits, depth=plan.depth, sharing=sharing)
    fits = not oracles.nearest_clashes(shared, worths)
    fits = fits and all((1, ((name, 0),)) in sharing and (name, 0, 0) in crowd for name in kept(web))
    fits = fits and shared.sharing == sharing and all(members[0][1] == 0 for _, members in sharing)
    named = tuple(name for name, _, _ in crowd) == web.buffers
    sizes = [last - first + 1 for _, first, last in crowd]
    for (r, first, _), (s, _, last) in itertools.product(crowd, repeat=2):
        if r in free and s in free and web.size(r) == web.size(s):
            fits = fits and (worths[r, s] is None or last - first < worths[r, s])
    sums = sum(count for count, _ in sharing) == many == sum(sizes) == _least_sum(web, free, worths) + len(kept(web))
    return word == "slots" and fits and named and sums and min(sizes, default=0) >= 0


def _least_sum(web, free, worths):
    total = 0
    for size in {web.size(name) for name in free}:
        alike = [name for name in free if web.size(name) == size]
        orders = [[worths[pair] for pair in zip(alike, order)] for order in itertools.permutations(alike)]
        total += min(sum(order) for order in orders if None not in order)
    return total
