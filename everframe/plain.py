"""The plain run: all jobs one after another, each instance in memory of its own."""

from everframe.errors import CannotLeaveOut, NoBuffer, NoJob
from everframe.kinds import age_of


def plain_run(web, *, frames, left_out=()):
    """Yield (job, frame, finds) for each step of these frames."""
    skips = _skips(web, left_out)
    for frame in range(frames):
        for job in web.jobs:
            yield (job, frame, _finds(web, job, frame, skips))


def plain_finds(web, job, frame, *, left_out=()):
    """The finds of this step."""
    if job not in web:
        raise NoJob(job)
    return _finds(web, job, frame, _skips(web, left_out))


def plain_content(web, buffer, frame, *, left_out=()):
    """The content of an instance behind all steps of its frame."""
    if buffer not in web.buffers:
        raise NoBuffer(buffer)
    return _last_content(web, buffer, frame, _skips(web, left_out))


def _skips(web, left_out):
    """The steps that are left out, as keys of a dict."""
    for job, _ in left_out:
        if job not in web:
            raise NoJob(job)
    for job, _ in left_out:
        if not web.can_be_left_out(job):
            raise CannotLeaveOut(job)
    # True would be found as the frame 1, and a list cannot be a key
    steps = [(job, frame) for job, frame in left_out if isinstance(frame, int)]
    return {step: True for step in steps if not isinstance(step[1], bool)}


def _finds(web, job, frame, skips):
    if (job, frame) in skips:
        return _finds_left_out(web, job, frame, skips)
    looks = [(use[1], age_of(use)) for use in web.uses(job) if use[0] in ("read", "update")]
    finds = []
    for buffer, age in looks:
        if age == 0:
            finds.append((buffer, frame, _content_before(web, buffer, job, frame, skips)))
        elif age <= frame:
            content = _last_content(web, buffer, frame - age, skips)
            finds.append((buffer, frame - age, content))
    return tuple(finds)


def _finds_left_out(web, job, frame, skips):
    """A carry that is left out looks at its buffer of the frame before."""
    carried = [use[1] for use in web.uses(job) if use[0] == "carry" and frame > 0]
    return tuple([(name, frame - 1, _last_content(web, name, frame - 1, skips)) for name in carried])


def _content_before(web, buffer, job, frame, skips):
    """What the buffer of this frame holds when the job of the same frame comes."""
    place = web.jobs.index(job)
    writer = [one for one in web.writers(buffer) if web.jobs.index(one) < place][-1]
    if (writer, frame) in skips:
        return _last_content(web, buffer, frame - 1, skips)
    return (writer, frame, buffer)


def _last_content(web, buffer, frame, skips):
    """What the buffer of this frame holds in the end; None below frame 0."""
    writer = web.writers(buffer)[-1]
    # only a maker can be left out; it passes on what the frame before has
    while frame >= 0 and (writer, frame) in skips:
        frame = frame - 1
    return (writer, frame, buffer) if frame >= 0 else None
