"""Whether a plan is right, with a certificate."""

from everframe.costs import clashes
from everframe.leading import lead_table, unmet
from everframe.lives import kept_buffers
from everframe.rings import find_ring
from everframe.wrongruns import wrong_run


def faults(plan):
    """Yield the faults of a plan: needs, then kept buffers, then clashes."""
    for before, after, back in unmet(plan):
        yield ("need", before, after, back)
    for buffer in kept_buffers(plan.web):
        # alone in a group with one slot, a buffer has no other shift than 0
        if (1, ((buffer, 0),)) not in plan.sharing:
            yield ("keep", buffer)
    for one, other, later in clashes(plan):
        yield ("clash", one, other, later)


def verdict(plan):
    """("still", ring), ("wrong", steps) or ("right", table)."""
    ring = find_ring(plan)
    if ring is not None:
        return ("still", ring)
    found = list(faults(plan))
    if found:
        return ("wrong", wrong_run(plan, found))
    return ("right", lead_table(plan))
