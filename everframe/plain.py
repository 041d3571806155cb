"""The plain run: all jobs one after another, each instance in memory of its own."""

from everframe.contents import finds_done, finds_left_out, last_content, left_out_steps
from everframe.errors import NoBuffer, NoJob


def plain_run(web, *, frames, left_out=()):
    """Yield (job, frame, finds) for each step of these frames."""
    passed = left_out_steps(web, left_out)
    acts = web.facts.acts
    for frame in range(frames):
        for job in web.jobs:
            yield (job, frame, _finds(acts[job], frame, passed, (job, frame) in passed))


def plain_finds(web, job, frame, *, left_out=()):
    """The finds of this step."""
    if job not in web:
        raise NoJob(job)
    passed = left_out_steps(web, left_out)
    return _finds(web.facts.acts[job], frame, passed, (job, frame) in passed)


def plain_content(web, buffer, frame, *, left_out=()):
    """The content of an instance behind all steps of its frame."""
    if buffer not in web.buffers:
        raise NoBuffer(buffer)
    return last_content(buffer, web.writers(buffer)[-1], frame, left_out_steps(web, left_out))


def _finds(act, frame, passed, is_left_out):
    return finds_left_out(act.carried, frame, passed) if is_left_out else finds_done(act.looks, frame, passed)
