"""What steps find in the plain run, in which some steps may be left out.

Steps that are left out are told by a dict: from each of them to the last frame
before it in which its job is not left out, -1 if there is none.
"""

from everframe.errors import CannotLeaveOut, NoJob
from everframe.kinds import age_of, is_int


def left_out_steps(web, pairs):
    """The steps that these pairs of any values leave out."""
    for job, _ in pairs:
        if job not in web:
            raise NoJob(job)
    for job, _ in pairs:
        if not web.can_be_left_out(job):
            raise CannotLeaveOut(job)
    steps = sorted([(job, frame) for job, frame in pairs if is_int(frame) and frame >= 0])
    passed = {}
    for job, frame in steps:
        passed[job, frame] = last_done(passed, job, frame - 1)
    return passed


def last_done(passed, job, frame):
    """The last frame up to this one in which the job is not left out, -1 if there is none."""
    return passed.get((job, frame), frame)


def looks_of(web, job):
    """At what a job looks: tuples of the buffer, the age and whose content it should find."""
    uses = [use for use in web.uses(job) if use[0] in ("read", "update")]
    return tuple([(use[1], age_of(use), _writer_for(web, job, use)) for use in uses])


def finds_done(web, job, frame, passed):
    """The finds of a step that is done."""
    looks = [look for look in looks_of(web, job) if look[1] <= frame]
    return tuple([(look[0], frame - look[1], _right_content(web, look, frame, passed)) for look in looks])


def finds_left_out(web, job, frame, passed):
    """The finds of a step that is left out: a carry looks at its buffer of the frame before."""
    carried = [use[1] for use in web.uses(job) if use[0] == "carry" and frame > 0]
    return tuple([(name, frame - 1, last_content(web, name, frame - 1, passed)) for name in carried])


def last_content(web, buffer, frame, passed):
    """What the buffer of this frame holds in the end; None below frame 0."""
    writer = web.writers(buffer)[-1]
    # only a maker can be left out; it passes on what the frame before has
    source = last_done(passed, writer, frame)
    return (writer, source, buffer) if source >= 0 else None


def _right_content(web, look, frame, passed):
    buffer, age, writer = look
    if (writer, frame - age) in passed:
        return last_content(web, buffer, frame - age - 1, passed)
    return (writer, frame - age, buffer)


def _writer_for(web, job, use):
    """The last writer that comes before this look: in its frame, or in all of an earlier one."""
    writers = web.writers(use[1])
    if age_of(use) > 0:
        return writers[-1]
    place = web.jobs.index(job)
    return [one for one in writers if web.jobs.index(one) < place][-1]
