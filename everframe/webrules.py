"""What the jobs and the sizes of a web have to fulfil."""

from everframe.errors import InvalidWeb
from everframe.kinds import MAKING, OPTIONAL, age_of, is_job, within

MOST_JOBS = 16
MOST_BUFFERS = 10


def check_web(jobs, sizes):
    """Raise InvalidWeb with the first reason why these values make no web."""
    if len(jobs) < 1 or len(jobs) > MOST_JOBS:
        raise InvalidWeb("count", None)
    # each check relies on those before it
    _refuse_first("job", jobs, _is_no_job)
    _refuse_first("name", jobs, _has_taken_name)
    _refuse_first("uses", jobs, _has_clashing_uses)
    _refuse_first("maker", jobs, _has_wrong_maker)
    _refuse_first("ahead", jobs, _is_ahead_of_maker)
    buffers = [name for job in jobs for name in made_by(job)]
    if len(buffers) > MOST_BUFFERS:
        raise InvalidWeb("buffers", None)
    _refuse_first("unread", jobs, _makes_unread)
    if not _are_sizes(sizes, buffers):
        raise InvalidWeb("sizes", None)


def made_by(job):
    """The buffers that a job makes, keeps or carries."""
    return [use[1] for use in job[2] if use[0] in MAKING]


def _refuse_first(reason, jobs, is_wrong):
    for at in range(len(jobs)):
        if is_wrong(jobs, at):
            raise InvalidWeb(reason, at)


def _is_no_job(jobs, at):
    return not is_job(jobs[at])


def _has_taken_name(jobs, at):
    name = jobs[at][0]
    if name in [job[0] for job in jobs[:at]]:
        return True
    return name in [use[1] for job in jobs for use in job[2]]


def _has_clashing_uses(jobs, at):
    uses = jobs[at][2]
    if len(set([(use[1], age_of(use)) for use in uses])) < len(uses):
        return True
    writing = [use for use in uses if use[0] != "read"]
    return len(writing) > 1 and any([use[0] in OPTIONAL for use in writing])


def _has_wrong_maker(jobs, at):
    before = [name for job in jobs[:at] for name in made_by(job)]
    if any([name in before for name in made_by(jobs[at])]):
        return True
    made = [name for job in jobs for name in made_by(job)]
    return any([use[1] not in made for use in jobs[at][2]])


def _is_ahead_of_maker(jobs, at):
    before = [name for job in jobs[:at] for name in made_by(job)]
    now = [use for use in jobs[at][2] if use[0] not in MAKING and age_of(use) == 0]
    return any([use[1] not in before for use in now])


def _makes_unread(jobs, at):
    looked = [use[1] for job in jobs for use in job[2] if use[0] not in MAKING]
    return any([name not in looked for name in made_by(jobs[at])])


def _are_sizes(sizes, buffers):
    if sizes is None:
        return True
    if not isinstance(sizes, dict):
        return False
    return all([name in buffers and within(sizes[name], 1, 9) for name in sizes])
