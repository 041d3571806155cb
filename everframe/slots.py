"""The fewest slots that are enough for the buffers of a plan."""

from everframe.assigning import Order
from everframe.costs import costs_between
from everframe.fewest import alike, hindrance, sharing_of
from everframe.leading import leads_between
from everframe.lives import kept_buffers


def fewest_slots(plan):
    """("kept", buffer, user), ("endless", buffer, user, jobs) or ("slots", many, sharing, crowd)."""
    web = plan.web
    leads = leads_between(plan)
    costs = costs_between(web, leads)
    hindered = hindrance(web, costs)
    if hindered is not None and hindered[0] == "kept":
        return (*hindered, _late_user(web, leads, hindered[1]))
    if hindered is not None:
        return (*hindered, *_loose_user(web, leads, hindered[1]))
    orders = [Order(buffers, costs) for buffers in alike(web)]
    crowd = [(one, 0, 0) for one in kept_buffers(web)]
    for order in orders:
        crowd.extend(_crowd_of(order))
    sharing = sharing_of(web, orders, costs)
    return ("slots", sum([count for count, _ in sharing]), sharing, tuple(sorted(crowd)))


def _crowd_of(order):
    """A crowd of just as many instances as the order has slots."""
    # no end is below its own first: a cost is at most the sum of two by way of a third buffer
    least = min([order.first[one] for one in order.first])
    return [(one, order.first[one] - least, order.ends[one] - 1 - least) for one in order.first]


def _late_user(web, leads, buffer):
    """The first user of a kept buffer that may come too late for its next instance."""
    maker = web.maker(buffer)
    uses = web.uses_of(buffer)
    late = [job for job, age, _ in uses if (job, maker) not in leads or age - leads[job, maker] > 1]
    return late[0]


def _loose_user(web, leads, buffer):
    """The first user that the maker need not await, and the jobs that can go on without it."""
    maker = web.maker(buffer)
    loose = [job for job, _, _ in web.uses_of(buffer) if (job, maker) not in leads]
    # the maker is among them, as its row leads back to it
    jobs = sorted([job for job in web.jobs if (job, maker) in leads])
    return (loose[0], tuple(jobs))
