"""Slow ways to state rows and to changes of state, taken word by word from the document."""

import math

from everframe.errors import Unsettled
from everframe.runs import Run
from everframe.verdicts import faults
from tests import oracles
from tests.slowchecks import all_sharings, shared

NAMES = ("copy", "sample", "target", "common")


def random_wishes(rng, web, share=0.6, names=NAMES):
    """Wishes for some of the pairs of a job and a buffer that it uses."""
    pairs = {(use_job, name) for name in web.buffers for use_job, _, _ in web.uses_of(name)}
    return {pair: rng.choice(names) for pair in sorted(pairs) if rng.random() < share}


def slow_row(plan, buffer, wishes):
    """The state row of a buffer, or the arguments of Unsettled in a list."""
    web = plan.web
    behind = oracles.later(plan, 24)
    uses = [(job, age) for job, age, _ in web.uses_of(buffer)]
    state = {use: wishes.get((use[0], buffer), "common") for use in uses}

    after = {use: oracles.reached(behind, (use[0], 18 + use[1])) for use in uses}

    def ahead(one, other):
        return (other[0], 18 + other[1]) in after[one]

    for one in web.jobs:
        for other in web.jobs[web.jobs.index(one) + 1:]:
            for first in [use for use in uses if use[0] == one]:
                for second in [use for use in uses if use[0] == other]:
                    if state[first] != state[second] and not ahead(first, second) and not ahead(second, first):
                        return [buffer, one, other]
    row = []
    rest = list(uses)
    while rest:
        free = [use for use in rest if not any(ahead(other, use) for other in rest)]
        rest.remove(free[-1])
        if not row or row[-1] != state[free[-1]]:
            row.append(state[free[-1]])
    return tuple(row)


def slow_rows(plan, wishes):
    """The state rows of all buffers; raise Unsettled for the least one that has none."""
    rows = {}
    for name in plan.web.buffers:
        rows[name] = slow_row(plan, name, wishes)
        if isinstance(rows[name], list):
            raise Unsettled(*rows[name])
    return rows


def uses_in_slots(plan, wishes, frames):
    """For each slot the uses (buffer, frame, state) in a run in which each job does so many frames."""
    run = Run(plan)
    slots = {}
    while min(run.frame(job) for job in plan.web.jobs) < frames:
        job = min(run.ready, key=run.frame)
        frame = run.frame(job)
        run.do(job)
        for use in plan.web.uses(job):
            at = frame - (use[2] if use[0] == "read" else 0)
            if at >= 0:
                state = wishes.get((job, use[1]), "common")
                slots.setdefault(oracles.home(plan, use[1], at), []).append((use[1], at, state))
    return slots


def slow_changes(plan, wishes):
    """The changes of the plan's own sharing for each frame, counted in a run."""
    length = math.lcm(*[count for count, _ in plan.sharing])
    total = 0
    for uses in uses_in_slots(plan, wishes, 12 + 2 * length).values():
        instances = list(dict.fromkeys((buffer, frame) for buffer, frame, _ in uses))
        assert [use[:2] for use in uses] == [one for one in instances for use in uses if use[:2] == one]
        for one, other in zip(uses, uses[1:]):
            if 6 <= one[1] < 6 + length and one[2] != other[2]:
                total += 1
    assert total % length == 0
    return total // length


def fewest_by_search(plan, wishes, many):
    """The fewest changes of all fitting sharings with so many slots."""
    found = []
    for sharing in all_sharings(plan.web, many):
        other = shared(plan, sharing)
        if not [fault for fault in faults(other) if fault[0] != "need"]:
            found.append(slow_changes(other, wishes))
    return min(found)
