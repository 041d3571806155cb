"""How long the instances of a buffer are used."""


def how_made(web, buffer):
    """The word of the use that makes a buffer: "make", "keep" or "carry"."""
    return [word for job, _, word in web.uses_of(buffer) if job == web.maker(buffer) and word != "read"][0]


def kept_buffers(web):
    """The ascending list of the buffers that are made by a keep."""
    return [buffer for buffer in web.buffers if how_made(web, buffer) == "keep"]


def looks_at(web, buffer):
    """The tuples (job, age) of the jobs that read or update a buffer, in list order."""
    uses = web.uses_of(buffer)
    return [(job, age) for job, age, word in uses if word in ("read", "update")]


def life_uses(web, buffer, follower):
    """The life uses (job, age) of a buffer that the follower in its slot has to await."""
    uses = [(job, age) for job, age, _ in web.uses_of(buffer)]
    # if the carry is left out, it copies the instance of the frame before
    if buffer != follower and how_made(web, buffer) == "carry":
        uses.append((web.maker(buffer), 1))
    return uses
