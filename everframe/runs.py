"""Runs of a plan, step by step."""

from everframe.acts import Act, awaited_by, slots_of, spot_at, spots_of
from everframe.contents import finds_done, finds_left_out, last_content, last_done, right_content
from everframe.errors import CannotLeaveOut, NoBuffer, NoJob, NotReady, TooMany
from everframe.kinds import is_int


class Run:
    """The steps of a plan that have come so far, and what is in its slots."""

    MOST_STEPS = 4000

    def __init__(self, plan):
        self._plan = plan.twin()
        self._awaited = awaited_by(plan.web.jobs, plan.ties)
        self._spots = spots_of(plan.sharing)
        self._acts = {}
        self._frames = {job: 0 for job in plan.web.jobs}
        self._slots = slots_of(plan.sharing)
        self._passed = {}
        self._steps = []
        self._wrong = []

    @property
    def web(self):
        """The web of the plan."""
        return self._plan.web

    @property
    def steps(self):
        """The tuple of the steps (job, frame, is_left_out) in their order."""
        return tuple(self._steps)

    @property
    def ready(self):
        """The tuple of the jobs whose next step is ready, in list order."""
        return tuple([job for job in self._frames if self._is_ready(job)])

    @property
    def wrong(self):
        """The tuple of the wrong finds (job, frame, find, expected) in their order."""
        return tuple(self._wrong)

    def frame(self, job):
        """The frame of the next step of a job."""
        self._ask_job(job)
        return self._frames[job]

    def do(self, job):
        """Do the next step of a job; the tuple of its finds."""
        self._ask_job(job)
        self._ask_turn(job)
        return self._do(job)

    def leave_out(self, job):
        """Leave out the next step of a job; the tuple of its finds."""
        self._ask_optional(job)
        self._ask_turn(job)
        return self._leave_out(job)

    def expected(self, job, *, left_out=False):
        """The right finds of the next step of a job, if it is done or left out."""
        if left_out:
            self._ask_optional(job)
            return finds_left_out(self._act(job).carried, self._frames[job], self._passed)
        self._ask_job(job)
        return finds_done(self._act(job).looks, self._frames[job], self._passed)

    def content(self, buffer, frame):
        """The content of the slot in which the buffer of this frame lives."""
        if buffer not in self._plan.web.buffers:
            raise NoBuffer(buffer)
        return self._slots[spot_at(self._spots[buffer], frame)]

    def twin(self):
        """Another run in the same state, which goes on by itself."""
        other = Run(self._plan)
        other._acts = dict(self._acts)
        other._frames = dict(self._frames)
        other._slots = list(self._slots)
        other._passed = {step: self._passed[step] for step in self._passed}
        other._steps = list(self._steps)
        other._wrong = list(self._wrong)
        return other

    @classmethod
    def after(cls, plan, steps):
        """The run of the plan after these steps."""
        run = cls(plan)
        for job, frame, left_out in steps:
            run.take(job, frame, left_out)
        return run

    def take(self, job, frame, left_out):
        """Do or leave out the next step of a job, which must be that of this frame."""
        self._ask_job(job)
        if left_out:
            self._ask_optional(job)
        if not is_int(frame) or frame != self._frames[job]:
            raise NotReady(job)
        self._ask_turn(job)
        return self._leave_out(job) if left_out else self._do(job)

    def __len__(self):
        return len(self._steps)

    def __eq__(self, other):
        return isinstance(other, Run) and self._plan == other._plan and self._steps == other._steps

    def __repr__(self):
        return f"Run({len(self._steps)} steps)"

    def _ask_job(self, job):
        if not isinstance(job, str) or job not in self._frames:
            raise NoJob(job)

    def _ask_optional(self, job):
        self._ask_job(job)
        if not self._act(job).optional:
            raise CannotLeaveOut(job)

    def _ask_turn(self, job):
        if not self._is_ready(job):
            raise NotReady(job)
        if len(self._steps) >= Run.MOST_STEPS:
            raise TooMany(Run.MOST_STEPS)

    def _is_ready(self, job):
        # a loop of its own, as each step asks this and a list would take longer
        frames = self._frames
        frame = frames[job]
        for before, total in self._awaited[job]:
            if frames[before] <= frame + total:
                return False
        return True

    def _act(self, job):
        # made at the first step of the job and kept, as a run has many steps
        if job not in self._acts:
            self._acts[job] = Act(self._plan.web, job, self._spots)
        return self._acts[job]

    def _do(self, job):
        act = self._act(job)
        frame = self._frames[job]
        slots = self._slots
        for base, count, shift in act.cleared:
            slots[base + (frame + shift) % count] = None
        finds = self._finds(job, act.seen) if act.seen else ()
        for buffer, (base, count, shift) in act.written:
            slots[base + (frame + shift) % count] = (job, frame, buffer)
        self._end_step(job, False)
        return finds

    def _finds(self, job, seen):
        """What the next step of a job finds where it looks; what is wrong is noted."""
        frame = self._frames[job]
        finds = []
        for look, (base, count, shift) in seen:
            at = frame - look[1]
            if at >= 0:
                find = (look[0], at, self._slots[base + (at + shift) % count])
                due = right_content(look, at, self._passed)
                if find[2] != due:
                    self._wrong.append((job, frame, find, (look[0], at, due)))
                finds.append(find)
        return tuple(finds)

    def _leave_out(self, job):
        frame = self._frames[job]
        act = self._act(job)
        finds = self._finds_left_out(job, act.carried) if frame > 0 else ()
        # a job that may be left out makes one buffer only, so there is one find at most
        for buffer, _ in act.carried:
            before = finds[0][2] if frame > 0 else None
            self._slots[spot_at(self._spots[buffer], frame)] = before
        self._passed[job, frame] = last_done(self._passed, job, frame - 1)
        self._end_step(job, True)
        return finds

    def _finds_left_out(self, job, carried):
        """What the next step of a job finds if it is left out; what is wrong is noted."""
        frame = self._frames[job]
        finds = []
        for buffer, last in carried:
            find = (buffer, frame - 1, self._slots[spot_at(self._spots[buffer], frame - 1)])
            due = last_content(buffer, last, frame - 1, self._passed)
            if find[2] != due:
                self._wrong.append((job, frame, find, (buffer, frame - 1, due)))
            finds.append(find)
        return tuple(finds)

    def _end_step(self, job, is_left_out):
        frame = self._frames[job]
        self._steps.append((job, frame, is_left_out))
        self._frames[job] = frame + 1
