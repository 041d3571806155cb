"""The states that the instances of buffers go through, and the changes from one instance to the next."""

from everframe.errors import Unsettled

PLAIN_STATE = "common"


def row_of_states(web, leads, buffer, wishes):
    """The state row of a buffer; raise Unsettled if there is none."""
    uses = [(job, age) for job, age, _ in web.uses_of(buffer)]
    state = {job: wishes.get((job, buffer), PLAIN_STATE) for job, _ in uses}
    _refuse_unsettled(leads, buffer, uses, state)
    # what is ahead of a use is ahead of all that it is ahead of, so it has fewer uses ahead
    places = [(_count_ahead(leads, use, uses), use) for use in uses]
    states = [state[use[0]] for _, use in sorted(places)]
    return tuple([states[at] for at in range(len(states)) if at == 0 or states[at] != states[at - 1]])


def rows_of_states(web, leads, wishes):
    """A dict from each buffer to its state row; raise Unsettled for the least one that has none."""
    return {buffer: row_of_states(web, leads, buffer, wishes) for buffer in web.buffers}


def turns(rows, one, other):
    """1 if another state begins when one buffer follows the other in a slot, otherwise 0."""
    return 1 if rows[one][-1] != rows[other][0] else 0


def inner_changes(rows):
    """The changes within the instances of all buffers."""
    return sum([len(rows[buffer]) - 1 for buffer in rows])


def followers_in(sharing, costs):
    """For each buffer the one whose instance is used next in its slot, by a sharing that fits."""
    followers = {}
    for count, members in sharing:
        names = [buffer for buffer, _ in members]
        frame = {buffer: -shift % count for buffer, shift in members}
        order = sorted([(frame[one], _count_before(one, names, frame, costs), one) for one in names])
        ring = [one for _, _, one in order]
        for one, other in zip(ring, [*ring[1:], ring[0]]):
            followers[one] = other
    return followers


def _count_before(one, names, frame, costs):
    """How many buffers are over before this one in the slot in which they live in the same frame."""
    return len([other for other in names if frame[other] == frame[one] and costs[other][one] == 0])


def _count_ahead(leads, use, uses):
    return len([other for other in uses if _is_ahead(leads, other, use)])


def _is_ahead(leads, one, other):
    """Whether a use (job, age) has ended in every run before another use of the instance begins."""
    pair = (one[0], other[0])
    return pair in leads and leads[pair] >= one[1] - other[1]


def _refuse_unsettled(leads, buffer, uses, state):
    """Raise Unsettled for the first two jobs that use the buffer in different states without an order."""
    # the uses stand in list order
    jobs = list({job: True for job, _ in uses})
    for at, one in enumerate(jobs):
        for other in jobs[at + 1:]:
            if state[one] != state[other] and not _have_order(leads, uses, one, other):
                raise Unsettled(buffer, one, other)


def _have_order(leads, uses, one, other):
    pairs = [(use, further) for use in uses for further in uses if use[0] == one and further[0] == other]
    return all([_is_ahead(leads, use, further) or _is_ahead(leads, further, use) for use, further in pairs])
