"""The needs of a web: which steps have to end before which others begin."""


def needs(web):
    """The ascending tuple of the needs (before, after, back)."""
    return web.facts.needed


def needs_between(used):
    """The needs, if each buffer has these uses (job, age, word) in list order."""
    found = {}
    for buffer in used:
        for need in _needs_of(used[buffer]):
            found[need] = True
    return tuple(sorted(list(found)))


def _needs_of(uses):
    """A dict from the needs between the uses of one buffer to True."""
    found = {}
    writer = None
    readers = []
    later = []
    for job, age, word in uses:
        if age > 0:
            later.append((job, age))
        elif word == "read":
            found[writer, job, 0] = True
            readers.append(job)
        else:
            if word == "update":
                found[writer, job, 0] = True
            if word == "carry":
                later.append((job, 1))
            for reader in readers:
                found[reader, job, 0] = True
            writer = job
            readers = []
    # what is written last is what later frames look at
    for job, age in later:
        found[writer, job, age] = True
    return found
