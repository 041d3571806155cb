"""How soon a buffer may follow another one in its slot, and which buffers clash."""

from everframe.errors import NoBuffer
from everframe.groups import places
from everframe.leading import leads_between
from everframe.lives import life_uses


def cost(plan, r, s):
    """The cost of s behind r, None if there is none."""
    for name in (r, s):
        if name not in plan.web.buffers:
            raise NoBuffer(name)
    return _cost(plan.web, leads_between(plan), r, s)


def cost_table(plan):
    """The ascending tuple of (r, s, cost) for all pairs of buffers."""
    costs = costs_between(plan.web, leads_between(plan))
    return tuple([(r, s, costs[r, s]) for r, s in costs])


def costs_between(web, leads):
    """A dict from each two buffers, ascending, to the cost of the second one behind the first one."""
    return {(r, s): _cost(web, leads, r, s) for r in web.buffers for s in web.buffers}


def clashes(plan):
    """Yield (r, s, d) for the buffers that clash, with the d that is nearest to 0."""
    costs = costs_between(plan.web, leads_between(plan))
    lives = places(plan.sharing)
    for r, s in [pair for pair in costs if pair[0] <= pair[1]]:
        if lives[r][0] == lives[s][0]:
            count = lives[r][1]
            shift = (lives[r][2] - lives[s][2]) % count
            near = [d for d in _nearest(count, shift) if d != 0 or r != s]
            found = [d for d in near if _is_less(d, costs[r, s]) and _is_less(-d, costs[s, r])]
            if found:
                yield (r, s, found[0])


def _cost(web, leads, r, s):
    maker = web.maker(s)
    uses = life_uses(web, r, s)
    if not all([(job, maker) in leads for job, _ in uses]):
        return None
    return max([age - leads[job, maker] for job, age in uses])


def _nearest(count, shift):
    """0 if it leaves this rest, and the next two numbers around it, the nearest first."""
    behind = shift - count
    if shift == 0:
        return [0, count, behind]
    return [shift, behind] if shift <= -behind else [behind, shift]


def _is_less(number, worth):
    """Whether a number is below a cost; None is greater than each integer."""
    return worth is None or number < worth
