"""The plain run: all jobs one after another, each instance in memory of its own."""

from everframe.contents import finds_done, finds_left_out, last_content, left_out_steps
from everframe.errors import NoBuffer, NoJob


def plain_run(web, *, frames, left_out=()):
    """Yield (job, frame, finds) for each step of these frames."""
    passed = left_out_steps(web, left_out)
    for frame in range(frames):
        for job in web.jobs:
            yield (job, frame, _finds(web, job, frame, passed))


def plain_finds(web, job, frame, *, left_out=()):
    """The finds of this step."""
    if job not in web:
        raise NoJob(job)
    return _finds(web, job, frame, left_out_steps(web, left_out))


def plain_content(web, buffer, frame, *, left_out=()):
    """The content of an instance behind all steps of its frame."""
    if buffer not in web.buffers:
        raise NoBuffer(buffer)
    return last_content(web, buffer, frame, left_out_steps(web, left_out))


def _finds(web, job, frame, passed):
    if (job, frame) in passed:
        return finds_left_out(web, job, frame, passed)
    return finds_done(web, job, frame, passed)
