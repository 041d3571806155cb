"""The plain run: all jobs one after another, each instance in memory of its own."""

from everframe.contents import carried_of, finds_done, finds_left_out, last_content, left_out_steps, looks_of
from everframe.errors import NoBuffer, NoJob


def plain_run(web, *, frames, left_out=()):
    """Yield (job, frame, finds) for each step of these frames."""
    passed = left_out_steps(web, left_out)
    rows = [(job, looks_of(web, job), carried_of(web, job)) for job in web.jobs]
    for frame in range(frames):
        for job, looks, carried in rows:
            is_left_out = (job, frame) in passed
            yield (job, frame, _finds(looks, carried, frame, passed, is_left_out))


def plain_finds(web, job, frame, *, left_out=()):
    """The finds of this step."""
    if job not in web:
        raise NoJob(job)
    passed = left_out_steps(web, left_out)
    return _finds(looks_of(web, job), carried_of(web, job), frame, passed, (job, frame) in passed)


def plain_content(web, buffer, frame, *, left_out=()):
    """The content of an instance behind all steps of its frame."""
    if buffer not in web.buffers:
        raise NoBuffer(buffer)
    return last_content(buffer, web.writers(buffer)[-1], frame, left_out_steps(web, left_out))


def _finds(looks, carried, frame, passed, is_left_out):
    return finds_left_out(carried, frame, passed) if is_left_out else finds_done(looks, frame, passed)
