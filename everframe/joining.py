"""New plans that are made from others: side by side, doubled, cut, renamed."""

from everframe.doubling import doubled_plan
from everframe.errors import InvalidPlan, TooMany
from everframe.kinds import is_int, within
from everframe.plans import Plan
from everframe.webs import Web

QUEUES = 4


def side_by_side(plan, *others):
    """A plan with the jobs of all these plans, each on queues of its own."""
    plans = [plan, *others]
    for at, one in enumerate(plans):
        if one.depth is not None:
            raise InvalidPlan("depth", at)
    _refuse_same_names(plans)
    shifts = _queue_shifts(plans)
    _refuse_too_many(plans, shifts)
    jobs = []
    rows = {}
    for one, shift in zip(plans, shifts):
        web = one.web
        jobs.extend([(job, web.queue_of(job) + shift, web.uses(job)) for job in web.jobs])
        for queue, row in one.rows.items():
            rows[queue + shift] = row
    sizes = {name: one.web.size(name) for one in plans for name in one.web.buffers}
    waits = [wait for one in plans for wait in one.waits]
    groups = [group for one in plans for group in one.sharing]
    return Plan(Web(*jobs, sizes=sizes), rows=rows, waits=waits, sharing=tuple(groups))


def twice(plan):
    """A plan each frame of which is made of two frames of this plan."""
    return doubled_plan(plan)


def cut_queue(plan, queue, at, new):
    """The plan with the later jobs of a queue's row on a new queue."""
    web = plan.web
    rows = plan.rows
    if not is_int(queue) or queue not in rows:
        raise InvalidPlan("queue", queue)
    if not within(at, 1, len(rows[queue]) - 1):
        raise InvalidPlan("at", at)
    if not within(new, 0, QUEUES - 1) or new in rows:
        raise InvalidPlan("new", new)
    stay, leave = rows[queue][:at], rows[queue][at:]
    rows[queue] = stay
    rows[new] = leave
    jobs = [(job, new if job in leave else web.queue_of(job), web.uses(job)) for job in web.jobs]
    sizes = web.sizes
    # these stand for the ties of the row that the cut takes away
    waits = [*plan.waits, (leave[0], stay[-1], 0), (stay[0], leave[-1], 1)]
    return Plan(Web(*jobs, sizes=sizes), rows=rows, waits=waits, depth=plan.depth, sharing=plan.sharing)


def renamed(plan, names):
    """The plan with other names of jobs and buffers."""
    web = plan.web
    jobs = [_renamed_job(web, job, names) for job in web.jobs]
    # a new name may be anything until the web has been checked; then all are different names
    Web(*jobs)
    sizes = {names.get(name, name): web.size(name) for name in web.buffers}
    rows = {queue: [names.get(job, job) for job in row] for queue, row in plan.rows.items()}
    waits = [(names.get(job, job), names.get(of, of), back) for job, of, back in plan.waits]
    groups = [
        (count, tuple([(names.get(name, name), shift) for name, shift in members]))
        for count, members in plan.sharing
    ]
    return Plan(Web(*jobs, sizes=sizes), rows=rows, waits=waits, depth=plan.depth, sharing=tuple(groups))


def _renamed_job(web, job, names):
    uses = [(use[0], names.get(use[1], use[1]), *use[2:]) for use in web.uses(job)]
    return (names.get(job, job), web.queue_of(job), tuple(uses))


def _refuse_same_names(plans):
    """Raise InvalidPlan for the first plan that has a name of an earlier one."""
    taken = []
    for at, one in enumerate(plans):
        names = [*one.web.jobs, *one.web.buffers]
        if any([name in taken for name in names]):
            raise InvalidPlan("name", at)
        taken.extend(names)


def _queue_shifts(plans):
    """How much the queues of each plan are moved, so that they come behind those of the plans before."""
    shifts = [0]
    for one in plans:
        shifts.append(shifts[-1] + one.web.queues[-1] + 1)
    return shifts[:-1]


def _refuse_too_many(plans, shifts):
    if shifts[-1] + plans[-1].web.queues[-1] >= QUEUES:
        raise TooMany(QUEUES)
    if sum([len(one.web) for one in plans]) > Web.MOST_JOBS:
        raise TooMany(Web.MOST_JOBS)
    if sum([len(one.web.buffers) for one in plans]) > Web.MOST_BUFFERS:
        raise TooMany(Web.MOST_BUFFERS)
