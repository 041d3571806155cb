"""Whether a plan is right, with a certificate."""

from everframe.costs import clashes_of
from everframe.leading import lead_table, unmet_needs
from everframe.rings import find_ring, refuse_standstill
from everframe.wrongruns import run_of_clash, run_of_keep, run_of_need


def faults(plan):
    """Yield the faults of a plan: needs, then kept buffers, then clashes."""
    refuse_standstill(plan)
    for before, after, back in unmet_needs(plan.web, plan.marks()):
        yield ("need", before, after, back)
    for buffer in _loose_keeps(plan):
        yield ("keep", buffer)
    for one, other, later in clashes_of(plan.web, plan.marks(), plan.sharing):
        yield ("clash", one, other, later)


def verdict(plan):
    """("still", ring), ("wrong", steps) or ("right", table)."""
    ring = find_ring(plan)
    if ring is not None:
        return ("still", ring)
    # the fault that is the plainest to show; a kept buffer may not show if something clashes
    unmet = unmet_needs(plan.web, plan.marks())
    if unmet:
        before, after, back = unmet[0]
        return ("wrong", run_of_need(plan, before, after, back))
    found = clashes_of(plan.web, plan.marks(), plan.sharing)
    if found:
        one, other, later = found[0]
        return ("wrong", run_of_clash(plan, one, other, later))
    keeps = _loose_keeps(plan)
    if keeps:
        return ("wrong", run_of_keep(plan, keeps[0]))
    return ("right", lead_table(plan))


def _loose_keeps(plan):
    """The kept buffers that are not alone in a group with one slot."""
    # alone there, a buffer has no other shift than 0
    return [buffer for buffer in plan.web.facts.kept if (1, ((buffer, 0),)) not in plan.sharing]
