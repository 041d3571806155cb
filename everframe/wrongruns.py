"""Runs that show a fault of a plan without a standstill.

Each fault names steps that can come in an order in which one of them finds
something wrong. A run takes them one after another, each behind all steps that
have to end before it, and ends with its first wrong find.
"""

from everframe.flows import flow
from everframe.leading import leads_between
from everframe.lives import looks_at
from everframe.runs import Run


def wrong_run(plan, found):
    """The steps of a run that shows one of these faults."""
    leads = leads_between(plan)
    for goals, left_out in _trials(plan.web, leads, _plainest(found)):
        run = Run(plan)
        for job, frame in _steps_to(plan, leads, goals):
            run.take(job, frame, (job, frame) in left_out)
            if run.wrong:
                return run.steps
    return ()


def _plainest(found):
    """The fault to show; a keep comes last, as it may not show if something clashes."""
    order = ("need", "clash", "keep")
    return min(found, key=lambda fault: order.index(fault[0]))


def _trials(web, leads, fault):
    """Pairs of goals and of the steps among them that are left out; one of them shows the fault."""
    if fault[0] == "need":
        return _trials_of_need(web, fault[1], fault[2], fault[3])
    if fault[0] == "keep":
        return [_trial_of_keep(web, fault[1])]
    return [_trial_of_clash(web, leads, fault[1], fault[2], fault[3])]


def _trials_of_need(web, before, after, back):
    """The later step comes without the earlier one, which may find what the later one wrote."""
    goals = [(after, back), (before, 0)]
    if web.can_be_left_out(after):
        return [(goals, []), (goals, [(after, back)])]
    return [(goals, [])]


def _trial_of_keep(web, buffer):
    """The maker is left out once, and somebody looks at what should have been kept."""
    job, age = min(looks_at(web, buffer), key=lambda look: look[1])
    return ([(job, age + 1)], [(web.maker(buffer), 1)])


def _trial_of_clash(web, leads, one, other, later):
    """One instance is made, then the other one in its slot, and then somebody looks at the first."""
    first = (one, max(0, -later))
    second = (other, max(0, later))
    if _make(web, first) == _make(web, second):
        return _trial_of_one_maker(web, one, other)
    # if the second must be made ahead of the first, the first is the one that overwrites
    if _has_ended(leads, _make(web, second), _make(web, first)):
        first, second = second, first
    goals = [_make(web, first), _make(web, second)]
    buffer, frame = first
    for job, age in looks_at(web, buffer):
        if not _has_ended(leads, (job, frame + age), goals[1]):
            return ([*goals, (job, frame + age)], [])
    # nobody but the maker, if it is left out and carries, comes too late
    carrying = (web.maker(buffer), frame + 1)
    return ([*goals, carrying], [carrying])


def _trial_of_one_maker(web, one, other):
    """A job overwrites at once what it makes first."""
    made = [use[1] for use in web.uses(web.maker(one)) if use[0] == "make"]
    buffer = min([one, other], key=lambda name: made.index(name))
    job, age = looks_at(web, buffer)[0]
    return ([(job, age)], [])


def _make(web, instance):
    """The step that makes an instance."""
    return (web.maker(instance[0]), instance[1])


def _has_ended(leads, step, goal):
    """Whether a step has ended in every run before another one begins."""
    pair = (step[0], goal[0])
    return pair in leads and leads[pair] >= step[1] - goal[1]


def _steps_to(plan, leads, goals):
    """The steps that have to come for these goals, one goal after the other."""
    # in one frame, the starts of a timetable tell which steps have to end before others
    starts = flow(plan)[1]
    order = [job for _, job in sorted(zip(starts, plan.web.jobs))]
    done = {job: 0 for job in order}
    steps = []
    for job, frame in goals:
        due = {one: _due(leads, one, job, frame, done[one]) for one in order}
        for at in range(frame + 1):
            steps.extend([(one, at) for one in order if done[one] <= at < due[one]])
        done = due
    return steps


def _due(leads, one, job, frame, done):
    """How many steps of one job have to be done when the step (job, frame) has come."""
    if one == job:
        return max(done, frame + 1)
    if (one, job) not in leads:
        return done
    return max(done, frame + leads[one, job] + 1)
