"""The needs of a web: which steps have to end before which others begin."""


def needs(web):
    """The ascending tuple of the needs (before, after, back)."""
    found = []
    for buffer in web.buffers:
        found.extend(_needs_in_frame(web.uses_of(buffer)))
        found.extend(_needs_of_later_frames(web, buffer))
    return tuple(sorted(set(found)))


def _needs_in_frame(uses):
    """The needs between uses of one instance that stand in the same frame."""
    found = []
    writer = None
    readers = []
    for job, age, word in uses:
        if age > 0:
            continue
        if word in ("read", "update"):
            found.append((writer, job, 0))
        if word == "read":
            readers.append(job)
        else:
            found.extend([(reader, job, 0) for reader in readers])
            writer = job
            readers = []
    return found


def _needs_of_later_frames(web, buffer):
    last = web.writers(buffer)[-1]
    uses = web.uses_of(buffer)
    reads = [(last, job, age) for job, age, _ in uses if age > 0]
    carries = [(last, job, 1) for job, _, word in uses if word == "carry"]
    return [*reads, *carries]
