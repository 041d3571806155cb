"""What the jobs and the sizes of a web have to fulfil."""

from everframe.errors import InvalidWeb
from everframe.kinds import MAKING, OPTIONAL, age_of, is_job, within

MOST_JOBS = 16
MOST_BUFFERS = 10


def check_web(jobs, sizes):
    """Raise InvalidWeb with the first reason why these values make no web."""
    if len(jobs) < 1 or len(jobs) > MOST_JOBS:
        raise InvalidWeb("count", None)
    # each check relies on those before it
    for at, job in enumerate(jobs):
        if not is_job(job):
            raise InvalidWeb("job", at)
    _check_names(jobs)
    for at, job in enumerate(jobs):
        if not _go_together(job[2]):
            raise InvalidWeb("uses", at)
    makers = _checked_makers(jobs)
    _check_order(jobs, makers)
    if len(makers) > MOST_BUFFERS:
        raise InvalidWeb("buffers", None)
    _check_looks(jobs)
    if not _are_sizes(sizes, makers):
        raise InvalidWeb("sizes", None)


def _check_names(jobs):
    """Refuse the first job with a name that an earlier job or a buffer has."""
    taken = {use[1]: True for job in jobs for use in job[2]}
    for at, job in enumerate(jobs):
        if job[0] in taken:
            raise InvalidWeb("name", at)
        taken[job[0]] = True


def _go_together(uses):
    """Whether one job may have all these uses."""
    if len(uses) < 2:
        return True
    if len(set([(use[1], age_of(use)) for use in uses])) < len(uses):
        return False
    writing = [use[0] for use in uses if use[0] != "read"]
    return len(writing) < 2 or not any([word in OPTIONAL for word in writing])


def _checked_makers(jobs):
    """The index of the maker of each buffer; refuse a second maker, and a use of what nobody makes."""
    made = {use[1]: True for job in jobs for use in job[2] if use[0] in MAKING}
    makers = {}
    for at, job in enumerate(jobs):
        for use in job[2]:
            if use[1] not in made:
                raise InvalidWeb("maker", at)
            # the job itself has no second use that makes this buffer
            if use[0] in MAKING and makers.setdefault(use[1], at) != at:
                raise InvalidWeb("maker", at)
    return makers


def _check_order(jobs, makers):
    """Refuse the first job that looks at a buffer of its frame ahead of its maker."""
    for at, job in enumerate(jobs):
        for use in job[2]:
            if makers[use[1]] >= at and use[0] not in MAKING and age_of(use) == 0:
                raise InvalidWeb("ahead", at)


def _check_looks(jobs):
    """Refuse the first maker of a buffer at which nobody looks."""
    seen = {use[1]: True for job in jobs for use in job[2] if use[0] not in MAKING}
    for at, job in enumerate(jobs):
        if not all([use[1] in seen for use in job[2]]):
            raise InvalidWeb("unread", at)


def _are_sizes(sizes, buffers):
    if sizes is None:
        return True
    if not isinstance(sizes, dict):
        return False
    return all([name in buffers and within(sizes[name], 1, 9) for name in sizes])
