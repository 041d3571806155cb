"""Runs of a plan, step by step."""

from everframe.contents import finds_done, finds_left_out, last_done
from everframe.errors import CannotLeaveOut, NoBuffer, NoJob, NotReady, TooMany
from everframe.groups import places, slot_at
from everframe.kinds import MAKING, is_int
from everframe.orders import ties_to


class Run:
    """The steps of a plan that have come so far, and what is in its slots."""

    MOST_STEPS = 4000

    def __init__(self, plan):
        self._plan = plan.twin()
        self._ties = {job: ties_to(plan.ties, job) for job in plan.web.jobs}
        self._places = places(plan.sharing)
        self._frames = {job: 0 for job in plan.web.jobs}
        self._slots = {}
        self._passed = {}
        self._steps = []
        self._wrong = []

    @property
    def web(self):
        """The web of the plan."""
        return self._plan.web

    @property
    def steps(self):
        """The tuple of the steps (job, frame, is_left_out) in their order."""
        return tuple(self._steps)

    @property
    def ready(self):
        """The tuple of the jobs whose next step is ready, in list order."""
        return tuple([job for job in self._plan.web.jobs if self._is_ready(job)])

    @property
    def wrong(self):
        """The tuple of the wrong finds (job, frame, find, expected) in their order."""
        return tuple(self._wrong)

    def frame(self, job):
        """The frame of the next step of a job."""
        self._ask_job(job)
        return self._frames[job]

    def do(self, job):
        """Do the next step of a job; the tuple of its finds."""
        self._ask_job(job)
        self._ask_turn(job)
        right = self.expected(job)
        frame = self._frames[job]
        uses = self._plan.web.uses(job)
        for buffer in [use[1] for use in uses if use[0] in MAKING]:
            self._put(buffer, frame, None)
        finds = self._found(right)
        for buffer in [use[1] for use in uses if use[0] != "read"]:
            self._put(buffer, frame, (job, frame, buffer))
        return self._end_step(job, False, finds, right)

    def leave_out(self, job):
        """Leave out the next step of a job; the tuple of its finds."""
        self._ask_optional(job)
        self._ask_turn(job)
        right = self.expected(job, left_out=True)
        frame = self._frames[job]
        finds = self._found(right)
        for buffer in [use[1] for use in self._plan.web.uses(job) if use[0] == "carry"]:
            before = self.content(buffer, frame - 1) if frame > 0 else None
            self._put(buffer, frame, before)
        self._passed[job, frame] = last_done(self._passed, job, frame - 1)
        return self._end_step(job, True, finds, right)

    def expected(self, job, *, left_out=False):
        """The right finds of the next step of a job, if it is done or left out."""
        if left_out:
            self._ask_optional(job)
            return finds_left_out(self._plan.web, job, self._frames[job], self._passed)
        self._ask_job(job)
        return finds_done(self._plan.web, job, self._frames[job], self._passed)

    def content(self, buffer, frame):
        """The content of the slot in which the buffer of this frame lives."""
        if buffer not in self._plan.web.buffers:
            raise NoBuffer(buffer)
        return self._slots.get(slot_at(self._places[buffer], frame))

    def twin(self):
        """Another run in the same state, which goes on by itself."""
        other = Run(self._plan)
        other._frames = {job: self._frames[job] for job in self._frames}
        other._slots = {slot: self._slots[slot] for slot in self._slots}
        other._passed = {step: self._passed[step] for step in self._passed}
        other._steps = list(self._steps)
        other._wrong = list(self._wrong)
        return other

    @classmethod
    def after(cls, plan, steps):
        """The run of the plan after these steps."""
        run = cls(plan)
        for job, frame, left_out in steps:
            run.take(job, frame, left_out)
        return run

    def take(self, job, frame, left_out):
        """Do or leave out the next step of a job, which must be that of this frame."""
        self._ask_job(job)
        if left_out:
            self._ask_optional(job)
        if not is_int(frame) or frame != self._frames[job]:
            raise NotReady(job)
        return self.leave_out(job) if left_out else self.do(job)

    def __len__(self):
        return len(self._steps)

    def __eq__(self, other):
        return isinstance(other, Run) and self._plan == other._plan and self._steps == other._steps

    def __repr__(self):
        return f"Run({len(self._steps)} steps)"

    def _ask_job(self, job):
        if job not in self._plan:
            raise NoJob(job)

    def _ask_optional(self, job):
        self._ask_job(job)
        if not self._plan.web.can_be_left_out(job):
            raise CannotLeaveOut(job)

    def _ask_turn(self, job):
        if not self._is_ready(job):
            raise NotReady(job)
        if len(self._steps) >= Run.MOST_STEPS:
            raise TooMany(Run.MOST_STEPS)

    def _is_ready(self, job):
        frame = self._frames[job]
        return all([self._frames[before] > frame + lead for before, _, lead in self._ties[job]])

    def _put(self, buffer, frame, content):
        self._slots[slot_at(self._places[buffer], frame)] = content

    def _found(self, right):
        """What the slots hold where a step looks, which the right finds tell."""
        return tuple([(buffer, frame, self.content(buffer, frame)) for buffer, frame, _ in right])

    def _end_step(self, job, is_left_out, finds, right):
        frame = self._frames[job]
        pairs = list(zip(finds, right))
        self._wrong.extend([(job, frame, find, due) for find, due in pairs if find != due])
        self._steps.append((job, frame, is_left_out))
        self._frames[job] = frame + 1
        return finds
