"""Paces: which of the ready jobs comes next in a run."""

from everframe.contents import left_out_steps
from everframe.errors import NoJob, NotReady
from everframe.runs import Run


class Pace:
    """Chooses the first ready job in list order, None if no job is ready."""

    def __call__(self, run):
        return _first(run.ready)


class Behind(Pace):
    """Chooses the first ready job of another queue, if there is one."""

    def __init__(self, queue):
        self.queue = queue

    def __call__(self, run):
        ready = run.ready
        others = [job for job in ready if run.web.queue_of(job) != self.queue]
        return _first([*others, *ready])


class Ahead(Pace):
    """Chooses the first ready job of this queue, if there is one."""

    def __init__(self, queue):
        self.queue = queue

    def __call__(self, run):
        ready = run.ready
        own = [job for job in ready if run.web.queue_of(job) == self.queue]
        return _first([*own, *ready])


class Listed(Pace):
    """Chooses these jobs in their order, then as Pace does."""

    def __init__(self, *names):
        self.names = names

    def __call__(self, run):
        ready = run.ready
        if len(run) >= len(self.names):
            return _first(ready)
        name = self.names[len(run)]
        if name not in run.web:
            raise NoJob(name)
        if name not in ready:
            raise NotReady(name)
        return name


def beginning(plan, pace, *, steps=100, left_out=()):
    """Yield the steps (job, frame, is_left_out, finds) of a new run that the pace chooses."""
    passed = left_out_steps(plan.web, left_out)
    run = Run(plan)
    while len(run) < steps:
        job = pace(run)
        if job is None:
            return
        # a pace may return anything, and only a job has a frame
        frame = run.frame(job)
        is_left_out = (job, frame) in passed
        yield (job, frame, is_left_out, run.take(job, frame, is_left_out))


def _first(jobs):
    return jobs[0] if jobs else None
