"""How few slots are enough, by the costs of the buffers."""

from everframe.assigning import Order
from everframe.lives import kept_buffers


def hindrance(web, costs):
    """("kept", buffer) or ("endless", buffer) if no sharing fits, otherwise None."""
    for buffer in kept_buffers(web):
        if costs[buffer, buffer] is None or costs[buffer, buffer] > 1:
            return ("kept", buffer)
    for buffer in web.buffers:
        if costs[buffer, buffer] is None:
            return ("endless", buffer)
    return None


def free_buffers(web):
    """The ascending list of the buffers that are not kept."""
    kept = kept_buffers(web)
    return [buffer for buffer in web.buffers if buffer not in kept]


def alike(web):
    """The buffers that are not kept, one list for each size."""
    free = free_buffers(web)
    sizes = sorted(set([web.size(buffer) for buffer in free]))
    return [[buffer for buffer in free if web.size(buffer) == size] for size in sizes]


def fewest_count(web, costs):
    """The fewest slots, None if no sharing fits."""
    if hindrance(web, costs) is not None:
        return None
    totals = [Order(buffers, costs).total() for buffers in alike(web)]
    return sum(totals) + len(kept_buffers(web))


def sharing_of(web, orders, costs):
    """The sharing in which the buffers follow one another in these orders."""
    groups = [(1, ((one, 0),)) for one in kept_buffers(web)]
    for order in orders:
        groups.extend([_group_of(ring, costs) for ring in order.rings()])
    return tuple(sorted(groups, key=lambda group: group[1]))


def _group_of(ring, costs):
    """The group in which each instance follows as soon as the one before it is over."""
    steps = [costs[one, other] for one, other in zip(ring, [*ring[1:], ring[0]])]
    count = sum(steps)
    # a buffer that comes c frames later in the same slot has a shift that is less by c
    shifts = [-sum(steps[:at]) % count for at in range(len(ring))]
    return (count, tuple(sorted(zip(ring, shifts))))
