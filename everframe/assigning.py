"""Which buffer follows which one in its slot, at the least cost, and numbers that show it.

The costs are a dict from each buffer to a dict from each buffer to an integer from 0 on,
or None (this one cannot follow that one); a buffer may always follow itself.
"""


class Order:
    """A permutation of buffers with the least sum of costs, and numbers that show it.

    `followers` has the next buffer for each one. For all pairs with a cost,
    ends[other] - first[one] is at most the cost of other behind one, and just this cost
    if other follows one; so no permutation has a smaller sum.
    """

    def __init__(self, buffers, costs):
        self.costs = costs
        self.followers = {}
        self.ahead = {}
        self.first = {one: 0 for one in buffers}
        self.ends = {one: 0 for one in buffers}
        for one in buffers:
            self._find_follower(one)

    def total(self):
        """The sum of the costs."""
        return sum([self.costs[one][self.followers[one]] for one in self.followers])

    def rings(self):
        """The buffers that follow one another, each ring from its least buffer on."""
        rings = []
        placed = []
        for one in sorted(list(self.followers)):
            if one not in placed:
                ring = [one]
                while self.followers[ring[-1]] != one:
                    ring.append(self.followers[ring[-1]])
                rings.append(ring)
                placed.extend(ring)
        return rings

    def _find_follower(self, one):
        """Give one more buffer a follower; others may have to take other ones."""
        near = {}
        behind = {}
        settled = {}
        at = one
        far = 0
        # at is the buffer that would lose its follower, until one is free
        while at is not None:
            self._reach_from(at, far, near, behind, settled)
            far = min(near.values())
            nearest = [other for other in near if near[other] == far][0]
            settled[nearest] = near.pop(nearest)
            at = self.ahead.get(nearest)
        self.first[one] -= far
        for other in settled:
            if settled[other] < far:
                self.ends[other] -= far - settled[other]
                self.first[self.ahead[other]] -= far - settled[other]
        self._exchange(nearest, behind)

    def _reach_from(self, at, far, near, behind, settled):
        """Note how far the followers of a buffer are, and behind which one."""
        costs = self.costs[at]
        base = far + self.first[at]
        for other, end in self.ends.items():
            worth = costs[other]
            if worth is None or other in settled:
                continue
            further = base + worth - end
            if other not in near or further < near[other]:
                near[other] = further
                behind[other] = at

    def _exchange(self, free, behind):
        """Let followers change from a free one back to the buffer that had none."""
        while free is not None:
            one = behind[free]
            before = self.followers.get(one)
            self.followers[one] = free
            self.ahead[free] = one
            free = before
