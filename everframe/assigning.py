"""Which buffer follows which one in its slot, at the least cost, and the crowd that shows it.

The costs are a dict from pairs of buffers; the cost of a buffer behind itself is
never None.
"""


def least_followers(buffers, costs):
    """A permutation with the least sum of costs, as a dict from each buffer to the next one."""
    # best[taken] tells the least sum with which the first buffers have these followers;
    # the bits of taken are their indexes
    best = {0: (0, ())}
    for one in buffers:
        further = {}
        for taken in best:
            total, chosen = best[taken]
            for at, other in enumerate(buffers):
                worth = costs[one, other]
                if worth is None or taken & (1 << at):
                    continue
                place = taken | (1 << at)
                if place not in further or total + worth < further[place][0]:
                    further[place] = (total + worth, (*chosen, other))
        best = further
    _, chosen = best[(1 << len(buffers)) - 1]
    return {one: other for one, other in zip(buffers, chosen)}


def greatest_crowd(buffers, costs, followers):
    """For these followers with the least sum, a crowd of just this size: (buffer, first, last)."""
    first = {one: 0 for one in buffers}
    ends = {one: 0 for one in buffers}
    bounds = _bounds(buffers, costs, followers)
    # lower what is too great; it comes to an end, since no followers have a smaller sum
    changed = True
    while changed:
        changed = False
        for one, other, worth in bounds:
            if ends[other] > first[one] + worth:
                ends[other] = first[one] + worth
                changed = True
        for one in buffers:
            other = followers[one]
            if first[one] > ends[other] - costs[one, other]:
                first[one] = ends[other] - costs[one, other]
                changed = True
    # no end is below its own first: a cost is at most the sum of two by way of a third buffer
    least = min([first[one] for one in buffers])
    return [(one, first[one] - least, ends[one] - 1 - least) for one in buffers]


def _bounds(buffers, costs, followers):
    pairs = [(one, other) for one in buffers for other in buffers]
    return [(one, other, costs[one, other]) for one, other in pairs if costs[one, other] is not None]
