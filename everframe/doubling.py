"""Plans of which each frame is made of two frames of another plan.

The frame 2 * n is the part "a" of the frame n, the frame 2 * n + 1 its part "b".
"""

from everframe.errors import InvalidWeb, TooMany
from everframe.kinds import MAKING, OPTIONAL
from everframe.plans import Plan
from everframe.webs import Web

PARTS = ("a", "b")
LONGEST = 8


def doubled_plan(plan):
    """The plan with two frames in one."""
    web = plan.web
    for at, job in enumerate(web.jobs):
        if _cannot_double(job, web.uses(job)):
            raise InvalidWeb("twice", at)
    if 2 * len(web) > Web.MOST_JOBS:
        raise TooMany(Web.MOST_JOBS)
    if 2 * len(web.buffers) > Web.MOST_BUFFERS:
        raise TooMany(Web.MOST_BUFFERS)
    jobs = [_job_of(web, job, part) for part in range(2) for job in web.jobs]
    sizes = {name + end: web.size(name) for name in web.buffers for end in PARTS}
    rows = {queue: [job + end for end in PARTS for job in row] for queue, row in plan.rows.items()}
    waits = [_wait_of(wait, part) for part in range(2) for wait in [*plan.waits, *_waits_of_depth(plan)]]
    return Plan(Web(*jobs, sizes=sizes), rows=rows, waits=waits)


def _cannot_double(job, uses):
    """Whether a job is optional, or it or a buffer that it makes has no room for another letter."""
    made = [use[1] for use in uses if use[0] in MAKING]
    return any([use[0] in OPTIONAL for use in uses]) or any([len(name) >= LONGEST for name in [job, *made]])


def _back_from(part, frames):
    """The part that is so many frames back, and how many of the new frames that is."""
    other = (part - frames) % 2
    return (other, (frames - part + other) // 2)


def _job_of(web, job, part):
    return (job + PARTS[part], web.queue_of(job), tuple([_use_of(use, part) for use in web.uses(job)]))


def _use_of(use, part):
    if use[0] != "read":
        return (use[0], use[1] + PARTS[part])
    other, age = _back_from(part, use[2])
    return ("read", use[1] + PARTS[other], age)


def _wait_of(wait, part):
    job, of, frames = wait
    other, back = _back_from(part, frames)
    return (job + PARTS[part], of + PARTS[other], back)


def _waits_of_depth(plan):
    """What the first job of each row waits for because of the depth."""
    if plan.depth is None:
        return []
    rows = list(plan.rows.values())
    return [(row[0], other[-1], plan.depth) for row in rows for other in rows if row != other]
