"""Webs: the jobs of one frame and the buffers that they use."""

from everframe.errors import NoBuffer, NoJob
from everframe.facts import Facts
from everframe.kinds import MAKING, age_of
from everframe.parsing import parse_web
from everframe.texts import show_web
from everframe.webrules import check_web


class Web:
    """A row of jobs on their queues; it never changes."""

    MOST_JOBS = 16
    MOST_BUFFERS = 10

    def __init__(self, *jobs, sizes=None):
        check_web(jobs, sizes)
        self._jobs = jobs
        self._names = tuple([job[0] for job in jobs])
        self._queue = {job[0]: job[1] for job in jobs}
        self._uses = {job[0]: job[2] for job in jobs}
        self._buffers = tuple(sorted([use[1] for job in jobs for use in job[2] if use[0] in MAKING]))
        given = {} if sizes is None else sizes
        self._size = {name: given.get(name, 1) for name in self._buffers}
        self._used = _uses_by_buffer(jobs, self._buffers)
        self._listed = _jobs_by_queue(jobs)
        self._queues = tuple(list(self._listed))
        # all that asks about plans of this web asks for these
        self.facts = Facts(jobs, self._used, self._size)

    @property
    def jobs(self):
        """The names of the jobs in list order."""
        return self._names

    @property
    def buffers(self):
        """The ascending tuple of the buffers."""
        return self._buffers

    @property
    def queues(self):
        """The ascending tuple of the queues that have jobs."""
        return self._queues

    @property
    def sizes(self):
        """A new dict from each buffer, ascending, to its size."""
        return {name: self._size[name] for name in self._buffers}

    def listed(self, queue):
        """The jobs of a queue that has jobs, in list order."""
        return self._listed[queue]

    def queue_of(self, job):
        """The queue of a job."""
        self._ask_job(job)
        return self._queue[job]

    def uses(self, job):
        """The uses of a job as they were handed in."""
        self._ask_job(job)
        return self._uses[job]

    def maker(self, buffer):
        """The job that makes, keeps or carries a buffer."""
        self._ask_buffer(buffer)
        return self.facts.makers[buffer]

    def size(self, buffer):
        """The size of a buffer."""
        self._ask_buffer(buffer)
        return self._size[buffer]

    def uses_of(self, buffer):
        """The tuple of (job, age, word) for all uses of a buffer, in list order."""
        self._ask_buffer(buffer)
        return self._used[buffer]

    def writers(self, buffer):
        """The maker of a buffer and the jobs that update it, in list order."""
        self._ask_buffer(buffer)
        return tuple([job for job, _, word in self._used[buffer] if word != "read"])

    def can_be_left_out(self, job):
        """Whether a job has a keep or a carry."""
        self._ask_job(job)
        return self.facts.acts[job].optional

    def __contains__(self, x):
        return isinstance(x, str) and x in self._queue

    def __len__(self):
        return len(self._jobs)

    def __eq__(self, other):
        return isinstance(other, Web) and self._jobs == other._jobs and self._size == other._size

    def __repr__(self):
        return f"Web({len(self._jobs)} jobs, {len(self._buffers)} buffers)"

    def __str__(self):
        return str(show_web(self))

    @classmethod
    def read(cls, text):
        """The web with this text."""
        jobs, sizes = parse_web(text)
        return cls(*jobs, sizes=sizes)

    def _ask_job(self, job):
        if job not in self:
            raise NoJob(job)

    def _ask_buffer(self, buffer):
        if buffer not in self._buffers:
            raise NoBuffer(buffer)


def _uses_by_buffer(jobs, buffers):
    """A dict from each buffer to the tuple of (job, age, word) for its uses, in list order."""
    used = {name: [] for name in buffers}
    for name, _, uses in jobs:
        for use in uses:
            used[use[1]].append((name, age_of(use), use[0]))
    return {name: tuple(used[name]) for name in buffers}


def _jobs_by_queue(jobs):
    """A dict from each queue that has jobs, ascending, to the tuple of its jobs in list order."""
    queues = sorted(set([queue for _, queue, _ in jobs]))
    return {queue: tuple([name for name, at, _ in jobs if at == queue]) for queue in queues}
