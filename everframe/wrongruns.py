"""Runs that show a fault of a plan without a standstill.

Each fault names steps that can come in an order in which one of them finds
something wrong. A run takes them one after another, each behind all steps that
have to end before it, and ends with its first wrong find.
"""

from everframe.marks import SPAN
from everframe.memory import Memory


def run_of_need(plan, before, after, back):
    """The steps of a run that shows a need that does not hold."""
    # the later step comes without the earlier one, which may find what the later one wrote
    goals = [(after, back), (before, 0)]
    found = _shown(plan, goals, [])
    if found or not plan.web.can_be_left_out(after):
        return found
    # all is well if the later step is done, so it goes wrong if that one is left out
    return _shown(plan, goals, [(after, back)])


def run_of_keep(plan, buffer):
    """The steps of a run that shows a kept buffer in a slot that is not its own; nothing clashes."""
    # the maker is left out once, and somebody looks at what should have been kept
    job, age = min(_looks_at(plan.web, buffer), key=lambda look: look[1])
    return _shown(plan, [(job, age + 1)], [(plan.web.maker(buffer), 1)])


def run_of_clash(plan, one, other, later):
    """The steps of a run that shows a clash."""
    web, marks = plan.web, plan.marks()
    first = (one, max(0, -later))
    second = (other, max(0, later))
    if _make(web, first) == _make(web, second):
        return _shown(plan, [_look_of_one_maker(web, one, other)], [])
    # if the second must be made ahead of the first, the first is the one that overwrites
    if _has_ended(marks, _make(web, second), _make(web, first)):
        first, second = second, first
    # one instance is made, then the other one in its slot, and then somebody looks at the first
    goals = [_make(web, first), _make(web, second)]
    buffer, frame = first
    for job, age in _looks_at(web, buffer):
        if not _has_ended(marks, (job, frame + age), goals[1]):
            return _shown(plan, [*goals, (job, frame + age)], [])
    # nobody but the maker, if it is left out and carries, comes too late
    carrying = (web.maker(buffer), frame + 1)
    return _shown(plan, [*goals, carrying], [carrying])


def _look_of_one_maker(web, one, other):
    """The step that looks at what a job overwrites at once, as it makes both buffers."""
    made = web.facts.acts[web.maker(one)].cleared
    buffer = min([one, other], key=lambda name: made.index(name))
    return _looks_at(web, buffer)[0]


def _looks_at(web, buffer):
    """The tuples (job, age) of the jobs that read or update a buffer, in list order."""
    return [(job, age) for job, age, word in web.uses_of(buffer) if word in ("read", "update")]


def _make(web, instance):
    """The step that makes an instance."""
    return (web.maker(instance[0]), instance[1])


def _has_ended(marks, step, goal):
    """Whether a step has ended in every run before another one begins."""
    return marks.follows(step[0], goal[0], goal[1] - step[1])


def _shown(plan, goals, left_out):
    """The steps to these goals up to the first one that finds something wrong, none if all is well."""
    memory = Memory(plan.web.facts.acts, plan.sharing)
    steps = []
    for job, frame in _steps_to(plan, goals):
        is_left_out = (job, frame) in left_out
        steps.append((job, frame, is_left_out))
        if is_left_out:
            memory.leave_step(job, frame)
        else:
            memory.do_step(job, frame)
        if memory.mistakes:
            return tuple(steps)
    return ()


def _steps_to(plan, goals):
    """The steps that have to come for these goals, one goal after the other."""
    # in one frame, the starts tell which steps have to end before others
    starts = plan.starts()
    order = [job for _, job in sorted([(starts[job], job) for job in starts])]
    done = {job: 0 for job in order}
    steps = []
    for job, frame in goals:
        due = _due(plan.marks(), done, job, frame)
        late = [one for one in order if done[one] < due[one]]
        for at in range(min([done[one] for one in late], default=0), frame + 1):
            steps.extend([(one, at) for one in late if done[one] <= at < due[one]])
        done = due
    return steps


def _due(marks, done, job, frame):
    """How many steps of each job have to be done when the step (job, frame) has come."""
    queue, at = marks.spot[job]
    row = marks.behind[queue]
    # the steps of a job without a way to this one are far below 0
    due = {one: max(done[one], frame + 1 + (at - row[one]) // SPAN) for one in done}
    due[job] = max(done[job], frame + 1)
    return due
