"""What steps find in the plain run, in which some steps may be left out.

Steps that are left out are told by a dict: from each of them to the last frame
before it in which its job is not left out, -1 if there is none.
"""

from everframe.errors import CannotLeaveOut, NoJob
from everframe.kinds import is_int


def left_out_steps(web, pairs):
    """The steps that these pairs of any values leave out."""
    for job, _ in pairs:
        if job not in web:
            raise NoJob(job)
    for job, _ in pairs:
        if not web.can_be_left_out(job):
            raise CannotLeaveOut(job)
    steps = sorted([(job, frame) for job, frame in pairs if is_int(frame) and frame >= 0])
    passed = {}
    for job, frame in steps:
        passed[job, frame] = last_done(passed, job, frame - 1)
    return passed


def last_done(passed, job, frame):
    """The last frame up to this one in which the job is not left out, -1 if there is none."""
    return passed.get((job, frame), frame)


def finds_done(looks, frame, passed):
    """The finds of a step that is done and looks so."""
    seen = [look for look in looks if look[1] <= frame]
    return tuple([(look[0], frame - look[1], right_content(look, frame - look[1], passed)) for look in seen])


def finds_left_out(carried, frame, passed):
    """The finds of a step that is left out and carries these buffers of the frame before."""
    seen = carried if frame > 0 else ()
    return tuple([(name, frame - 1, last_content(name, last, frame - 1, passed)) for name, last in seen])


def right_content(look, at, passed):
    """What a look should find in the instance of this frame."""
    buffer, _, writer, last = look
    if passed and (writer, at) in passed:
        return last_content(buffer, last, at - 1, passed)
    return (writer, at, buffer)


def last_content(buffer, last, frame, passed):
    """What the buffer of this frame, which this job writes last, holds in the end; None below frame 0."""
    # only a maker can be left out; it passes on what the frame before has
    source = last_done(passed, last, frame)
    return (last, source, buffer) if source >= 0 else None
