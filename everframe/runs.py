"""Runs of a plan, step by step."""

from everframe.contents import finds_done, finds_left_out
from everframe.errors import CannotLeaveOut, NoBuffer, NoJob, NotReady, TooMany
from everframe.kinds import is_int
from everframe.memory import Memory


class Run:
    """The steps of a plan that have come so far, and what is in its slots."""

    MOST_STEPS = 4000

    def __init__(self, plan):
        self._plan = plan.twin()
        self._acts = plan.web.facts.acts
        self._awaited = _awaited_by(plan.web.jobs, plan.ties)
        self._frames = {job: 0 for job in plan.web.jobs}
        self._memory = Memory(self._acts, plan.sharing)
        self._steps = []

    @property
    def web(self):
        """The web of the plan."""
        return self._plan.web

    @property
    def steps(self):
        """The tuple of the steps (job, frame, is_left_out) in their order."""
        return tuple(self._steps)

    @property
    def ready(self):
        """The tuple of the jobs whose next step is ready, in list order."""
        return tuple([job for job in self._frames if self._is_ready(job)])

    @property
    def wrong(self):
        """The tuple of the wrong finds (job, frame, find, expected) in their order."""
        return tuple(self._memory.mistakes)

    def frame(self, job):
        """The frame of the next step of a job."""
        self._ask_job(job)
        return self._frames[job]

    def do(self, job):
        """Do the next step of a job; the tuple of its finds."""
        self._ask_job(job)
        self._ask_turn(job)
        return self._do(job)

    def leave_out(self, job):
        """Leave out the next step of a job; the tuple of its finds."""
        self._ask_optional(job)
        self._ask_turn(job)
        return self._leave_out(job)

    def expected(self, job, *, left_out=False):
        """The right finds of the next step of a job, if it is done or left out."""
        if left_out:
            self._ask_optional(job)
            return finds_left_out(self._acts[job].carried, self._frames[job], self._memory.passed)
        self._ask_job(job)
        return finds_done(self._acts[job].looks, self._frames[job], self._memory.passed)

    def content(self, buffer, frame):
        """The content of the slot in which the buffer of this frame lives."""
        if buffer not in self._plan.web.buffers:
            raise NoBuffer(buffer)
        return self._memory.content(buffer, frame)

    def twin(self):
        """Another run in the same state, which goes on by itself."""
        other = Run(self._plan)
        other._frames = dict(self._frames)
        other._memory = self._memory.twin()
        other._steps = list(self._steps)
        return other

    @classmethod
    def after(cls, plan, steps):
        """The run of the plan after these steps."""
        run = cls(plan)
        for job, frame, left_out in steps:
            run.take(job, frame, left_out)
        return run

    def take(self, job, frame, left_out):
        """Do or leave out the next step of a job, which must be that of this frame."""
        self._ask_job(job)
        if left_out:
            self._ask_optional(job)
        if not is_int(frame) or frame != self._frames[job]:
            raise NotReady(job)
        self._ask_turn(job)
        return self._leave_out(job) if left_out else self._do(job)

    def __len__(self):
        return len(self._steps)

    def __eq__(self, other):
        return isinstance(other, Run) and self._plan == other._plan and self._steps == other._steps

    def __repr__(self):
        return f"Run({len(self._steps)} steps)"

    def _ask_job(self, job):
        if not isinstance(job, str) or job not in self._frames:
            raise NoJob(job)

    def _ask_optional(self, job):
        self._ask_job(job)
        if not self._acts[job].optional:
            raise CannotLeaveOut(job)

    def _ask_turn(self, job):
        if not self._is_ready(job):
            raise NotReady(job)
        if len(self._steps) >= Run.MOST_STEPS:
            raise TooMany(Run.MOST_STEPS)

    def _is_ready(self, job):
        # a loop of its own, as each step asks this and a list would take longer
        frames = self._frames
        frame = frames[job]
        for before, total in self._awaited[job]:
            if frames[before] <= frame + total:
                return False
        return True

    def _do(self, job):
        frame = self._frames[job]
        finds = self._memory.do_step(job, frame)
        self._steps.append((job, frame, False))
        self._frames[job] = frame + 1
        return finds

    def _leave_out(self, job):
        frame = self._frames[job]
        finds = self._memory.leave_step(job, frame)
        self._steps.append((job, frame, True))
        self._frames[job] = frame + 1
        return finds


def _awaited_by(jobs, ties):
    """A dict from each job to the pairs of a job and a lead that it has to wait for."""
    awaited = {job: [] for job in jobs}
    for before, after, total in ties:
        awaited[after].append((before, total))
    return awaited
