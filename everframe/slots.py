"""The fewest slots that are enough for the buffers of a plan."""

from everframe.assigning import Order
from everframe.costs import costs_between
from everframe.fewest import hindrance, sharing_of
from everframe.rings import refuse_standstill


def fewest_slots(plan):
    """("kept", buffer, user), ("endless", buffer, user, jobs) or ("slots", many, sharing, crowd)."""
    refuse_standstill(plan)
    web, marks = plan.web, plan.marks()
    costs = costs_between(web, marks)
    hindered = hindrance(web, costs)
    if hindered is not None and hindered[0] == "kept":
        return (*hindered, _late_user(web, marks, hindered[1]))
    if hindered is not None:
        return (*hindered, *_loose_user(web, marks, hindered[1]))
    orders = [Order(buffers, costs) for buffers in web.facts.alike]
    crowd = [(one, 0, 0) for one in web.facts.kept]
    for order in orders:
        crowd.extend(_crowd_of(order))
    sharing = sharing_of(web, orders, costs)
    return ("slots", sum([count for count, _ in sharing]), sharing, tuple(sorted(crowd)))


def _crowd_of(order):
    """A crowd of just as many instances as the order has slots."""
    # no end is below its own first: a cost is at most the sum of two by way of a third buffer
    least = min(order.first.values())
    return [(one, first - least, order.ends[one] - 1 - least) for one, first in order.first.items()]


def _late_user(web, marks, buffer):
    """The first user of a kept buffer that may come too late for its next instance."""
    maker = web.maker(buffer)
    late = [job for job, age, _ in web.uses_of(buffer) if not marks.follows(job, maker, 1 - age)]
    return late[0]


def _loose_user(web, marks, buffer):
    """The first user that the maker need not await, and the jobs that can go on without it."""
    maker = web.maker(buffer)
    loose = [job for job, _, _ in web.uses_of(buffer) if marks.lead(job, maker) is None]
    # the maker is among them, as its row leads back to it
    jobs = sorted([job for job in web.jobs if marks.lead(job, maker) is not None])
    return (loose[0], tuple(jobs))
