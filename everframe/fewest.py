"""How few slots are enough, by the costs of the buffers."""

from everframe.assigning import Order


def hindrance(web, costs):
    """("kept", buffer) or ("endless", buffer) if no sharing fits, otherwise None."""
    for buffer in web.facts.kept:
        if costs[buffer][buffer] is None or costs[buffer][buffer] > 1:
            return ("kept", buffer)
    for buffer in web.buffers:
        if costs[buffer][buffer] is None:
            return ("endless", buffer)
    return None


def fewest_count(web, costs):
    """The fewest slots, None if no sharing fits."""
    if hindrance(web, costs) is not None:
        return None
    totals = [Order(buffers, costs).total() for buffers in web.facts.alike]
    return sum(totals) + len(web.facts.kept)


def sharing_of(web, orders, costs):
    """The sharing in which the buffers follow one another in these orders."""
    groups = [(1, ((one, 0),)) for one in web.facts.kept]
    for order in orders:
        groups.extend([_group_of(ring, costs) for ring in order.rings()])
    return tuple(sorted(groups, key=lambda group: group[1]))


def _group_of(ring, costs):
    """The group in which each instance follows as soon as the one before it is over."""
    steps = [costs[one][other] for one, other in zip(ring, [*ring[1:], ring[0]])]
    count = sum(steps)
    # a buffer that comes c frames later in the same slot has a shift that is less by c
    shifts = [-sum(steps[:at]) % count for at in range(len(ring))]
    return (count, tuple(sorted(zip(ring, shifts))))
