"""What the steps of each job of a plan do, told once so that a run has little to ask.

A spot is a tuple (base, count, shift) that tells in which slots a buffer lives: the
slots of all groups are numbered, one group behind the other, and base is the first
one of its group.
"""

from everframe.contents import carried_of, looks_of
from everframe.kinds import MAKING


class Act:
    """What the steps of one job look at, clear and write, with the spots of the buffers."""

    def __init__(self, web, job, spots):
        self.optional = web.can_be_left_out(job)
        self.looks = looks_of(web, job)
        self.carried = carried_of(web, job)
        self.seen = [(look, spots[look[0]]) for look in self.looks]
        self.cleared = [spots[use[1]] for use in web.uses(job) if use[0] in MAKING]
        self.written = [(use[1], spots[use[1]]) for use in web.uses(job) if use[0] != "read"]


def awaited_by(jobs, ties):
    """A dict from each job to the pairs of a job and a lead that it has to wait for."""
    awaited = {job: [] for job in jobs}
    for before, after, total in ties:
        awaited[after].append((before, total))
    return awaited


def spots_of(sharing):
    """A dict from each buffer to its spot."""
    spots = {}
    base = 0
    for count, members in sharing:
        for buffer, shift in members:
            spots[buffer] = (base, count, shift)
        base += count
    return spots


def slots_of(sharing):
    """The slots of all groups, with nothing in them."""
    return [None] * sum([count for count, _ in sharing])


def spot_at(spot, frame):
    """The number of the slot in which a buffer with this spot lives in a frame."""
    base, count, shift = spot
    return base + (frame + shift) % count
