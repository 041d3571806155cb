"""The ring that takes the longest for each frame, and the starts that it leaves room for.

With the period top / bottom a tie weighs bottom * length of its first job + top * lead:
so much later its last job starts. With a possible period no ring weighs more than 0.
"""

from math import gcd

from everframe.rings import ring_back


def closest_ring(jobs, ties, took):
    """(top, bottom, ring, starts) with the ring of the greatest length for each frame."""
    # a tie of its row leads to each job, so going back comes around
    ring = ring_back(jobs[0], {tie[1]: tie for tie in ties})
    while ring is not None:
        best = ring
        top, bottom = _length_for_each_frame(best, took)
        # a ring that weighs more than 0 takes longer than the best one so far
        starts, ring = _settled(jobs, ties, took, top, bottom)
    return (top, bottom, best, starts)


def _length_for_each_frame(ring, took):
    """The length of a ring for each frame that it goes back, in lowest terms."""
    length = sum([took[before] for before, _, _ in ring])
    frames = -sum([total for _, _, total in ring])
    common = gcd(length, frames)
    return (length // common, frames // common)


def _settled(jobs, ties, took, top, bottom):
    """The earliest starts that keep all ties and None, or starts that do not and a ring above 0."""
    starts = {job: 0 for job in jobs}
    entry = {}
    late = None
    for _ in jobs:
        late = None
        for tie in ties:
            before, after, total = tie
            begin = starts[before] + bottom * took[before] + top * total
            if begin > starts[after]:
                starts[after] = begin
                entry[after] = tie
                late = after
        if late is None:
            return (starts, None)
    # what is late again in each round is on a ring or behind one
    return (starts, ring_back(late, entry))
