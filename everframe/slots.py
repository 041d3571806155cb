"""The fewest slots that are enough for the buffers of a plan."""

from everframe.assigning import greatest_crowd, least_followers
from everframe.costs import cost_table
from everframe.leading import leads_between
from everframe.lives import kept_buffers


def fewest_slots(plan):
    """("kept", buffer, user), ("endless", buffer, user, jobs) or ("slots", many, sharing, crowd)."""
    web = plan.web
    costs = {(r, s): worth for r, s, worth in cost_table(plan)}
    kept = kept_buffers(web)
    for buffer in kept:
        if costs[buffer, buffer] is None or costs[buffer, buffer] > 1:
            return ("kept", buffer, _late_user(plan, buffer))
    for buffer in web.buffers:
        if costs[buffer, buffer] is None:
            return ("endless", buffer, *_loose_user(plan, buffer))
    groups = [(1, ((one, 0),)) for one in kept]
    crowd = [(one, 0, 0) for one in kept]
    for buffers in _alike(web, kept):
        followers = least_followers(buffers, costs)
        groups.extend([_group_of(ring, costs) for ring in _rings(buffers, followers)])
        crowd.extend(greatest_crowd(buffers, costs, followers))
    many = sum([count for count, _ in groups])
    return ("slots", many, tuple(sorted(groups, key=lambda group: group[1])), tuple(sorted(crowd)))


def _late_user(plan, buffer):
    """The first user of a kept buffer that may come too late for its next instance."""
    leads = leads_between(plan)
    maker = plan.web.maker(buffer)
    uses = plan.web.uses_of(buffer)
    late = [job for job, age, _ in uses if (job, maker) not in leads or age - leads[job, maker] > 1]
    return late[0]


def _loose_user(plan, buffer):
    """The first user that the maker need not await, and the jobs that can go on without it."""
    leads = leads_between(plan)
    maker = plan.web.maker(buffer)
    loose = [job for job, _, _ in plan.web.uses_of(buffer) if (job, maker) not in leads]
    # the maker is among them, as its row leads back to it
    jobs = sorted([job for job in plan.web.jobs if (job, maker) in leads])
    return (loose[0], tuple(jobs))


def _alike(web, kept):
    """The buffers that are not kept, one list for each size."""
    free = [buffer for buffer in web.buffers if buffer not in kept]
    sizes = sorted(set([web.size(buffer) for buffer in free]))
    return [[buffer for buffer in free if web.size(buffer) == size] for size in sizes]


def _rings(buffers, followers):
    """The buffers that follow one another in common slots, each ring from its least one on."""
    rings = []
    placed = []
    for buffer in buffers:
        if buffer not in placed:
            ring = [buffer]
            while followers[ring[-1]] != buffer:
                ring.append(followers[ring[-1]])
            rings.append(ring)
            placed.extend(ring)
    return rings


def _group_of(ring, costs):
    """The group in which each instance follows as soon as the one before it is over."""
    steps = [costs[one, other] for one, other in zip(ring, [*ring[1:], ring[0]])]
    count = sum(steps)
    # a buffer that comes c frames later in the same slot has a shift that is less by c
    shifts = [-sum(steps[:at]) % count for at in range(len(ring))]
    return (count, tuple(sorted(zip(ring, shifts))))
