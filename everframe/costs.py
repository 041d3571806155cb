"""How soon a buffer may follow another one in its slot, and which buffers clash."""

from everframe.errors import NoBuffer
from everframe.groups import places
from everframe.marks import NEVER, SPAN
from everframe.rings import refuse_standstill


def cost(plan, r, s):
    """The cost of s behind r, None if there is none."""
    for name in (r, s):
        if name not in plan.web.buffers:
            raise NoBuffer(name)
    refuse_standstill(plan)
    return _cost(plan.web.facts, plan.marks(), r, s)


def cost_table(plan):
    """The ascending tuple of (r, s, cost) for all pairs of buffers."""
    refuse_standstill(plan)
    costs = costs_between(plan.web, plan.marks())
    return tuple([(r, s, costs[r][s]) for r in costs for s in costs[r]])


def costs_between(web, marks):
    """For each buffer, ascending, a dict from each buffer, ascending, to the cost of that one behind it."""
    facts = web.facts
    spots = [(s, *marks.spot[facts.makers[s]]) for s in web.buffers]
    rows = {queue: marks.behind[queue] for _, queue, _ in spots}
    costs = {}
    for r in web.buffers:
        ends = {queue: _end(rows[queue], facts.copied[r]) for queue in rows}
        costs[r] = {s: _frames_until(ends[queue], at) for s, queue, at in spots}
        if facts.words[r] == "carry":
            costs[r][r] = _cost(facts, marks, r, r)
    return costs


def clashes(plan):
    """Yield (r, s, d) for the buffers that clash, with the d that is nearest to 0."""
    refuse_standstill(plan)
    found = clashes_of(plan.web, plan.marks(), plan.sharing)
    for one, other, later in found:
        yield (one, other, later)


def clashes_of(web, marks, sharing):
    """The list of what `clashes` yields for a sharing."""
    lives = places(sharing)
    found = []
    for r in web.buffers:
        group, count, shift = lives[r]
        for s, other in sharing[group][1]:
            later = None if s < r else _meeting(web.facts, marks, r, s, count, shift - other)
            if later is not None:
                found.append((r, s, later))
    return found


def _meeting(facts, marks, r, s, count, shift):
    """The d nearest to 0 at which two buffers of a group clash, None if they do not."""
    ahead = _cost(facts, marks, r, s)
    if r == s:
        return count if _is_less(count, ahead) else None
    behind = _cost(facts, marks, s, r)
    found = [d for d in _nearest(count, shift % count) if _is_less(d, ahead) and _is_less(-d, behind)]
    return found[0] if found else None


def _cost(facts, marks, r, s):
    queue, at = marks.spot[facts.makers[s]]
    return _frames_until(_end(marks.behind[queue], facts.lives[r] if r == s else facts.copied[r]), at)


def _end(row, uses):
    """The first step of a row, by its marks, behind all these uses of an instance of frame 0."""
    return max([row[job] + SPAN * age for job, age in uses])


def _frames_until(end, at):
    """The first frame in which the step at this place of its row is not ahead of an end, None if there is none."""
    return None if end >= NEVER else (end - at + SPAN - 1) // SPAN


def _nearest(count, shift):
    """0 if it leaves this rest, and the next two numbers around it, the nearest first."""
    behind = shift - count
    if shift == 0:
        return [0, count, behind]
    return [shift, behind] if shift <= -behind else [behind, shift]


def _is_less(number, worth):
    """Whether a number is below a cost; None is greater than each integer."""
    return worth is None or number < worth
