"""Which buffer follows which one in its slot, at the least cost, and numbers that show it.

The costs are a dict from pairs of buffers to integers from 0 on or None (the second
one cannot follow the first one); a buffer may always follow itself.
"""


class Order:
    """A permutation of buffers with the least sum of costs, and numbers that show it.

    `followers` has the next buffer for each one. For all pairs with a cost,
    ends[other] - first[one] is at most the cost of other behind one, and just this cost
    if other follows one; so no permutation has a smaller sum.
    """

    def __init__(self, buffers, costs):
        self.costs = costs
        self.followers = {}
        self.ahead = {}
        self.first = {one: 0 for one in buffers}
        self.ends = {one: 0 for one in buffers}
        for one in buffers:
            self._find_follower(one)

    def total(self):
        """The sum of the costs."""
        return sum([self.costs[one, self.followers[one]] for one in self.followers])

    def rings(self):
        """The buffers that follow one another, each ring from its least buffer on."""
        rings = []
        placed = []
        for one in sorted(list(self.followers)):
            if one not in placed:
                ring = [one]
                while self.followers[ring[-1]] != one:
                    ring.append(self.followers[ring[-1]])
                rings.append(ring)
                placed.extend(ring)
        return rings

    def _find_follower(self, one):
        """Give one more buffer a follower; others may have to take other ones."""
        reached = {}
        settled = []
        at = one
        far = 0
        # at is the buffer that would lose its follower, until one is free
        while at is not None:
            self._reach_from(at, far, reached, settled)
            near = [other for other in reached if other not in settled]
            nearest = min(near, key=lambda other: reached[other][0])
            settled.append(nearest)
            far = reached[nearest][0]
            at = self.ahead.get(nearest)
        self.first[one] -= far
        for other in settled[:-1]:
            self.ends[other] -= far - reached[other][0]
            self.first[self.ahead[other]] -= far - reached[other][0]
        self._exchange(settled[-1], reached)

    def _reach_from(self, at, far, reached, settled):
        """Note how far the followers of a buffer are, and behind which one."""
        for other in self.ends:
            worth = self.costs[at, other]
            if worth is None or other in settled:
                continue
            further = far + worth + self.first[at] - self.ends[other]
            if other not in reached or further < reached[other][0]:
                reached[other] = (further, at)

    def _exchange(self, free, reached):
        """Let followers change from a free one back to the buffer that had none."""
        while free is not None:
            behind = reached[free][1]
            before = self.followers.get(behind)
            self.followers[behind] = free
            self.ahead[free] = behind
            free = before
