"""Sharings: the groups of the buffers that live in common slots."""

from everframe.errors import InvalidSharing
from everframe.kinds import within

MOST_COUNT = 200


def apart_groups(buffers):
    """The sharing in which each buffer has a slot of its own."""
    return tuple([(1, ((name, 0),)) for name in buffers])


def checked_sharing(web, sharing):
    """The sharing that any value stands for, in ascending order."""
    if sharing is None:
        return apart_groups(web.buffers)
    if not isinstance(sharing, tuple):
        raise InvalidSharing(-1)
    sizes = web.sizes
    taken = {}
    for at, group in enumerate(sharing):
        if not _is_group(sizes, group) or any([name in taken for name, _ in group[1]]):
            raise InvalidSharing(at)
        taken.update({name: True for name, _ in group[1]})
    if len(taken) < len(sizes):
        raise InvalidSharing(len(sharing))
    groups = [(count, tuple(sorted(members))) for count, members in sharing]
    return tuple(sorted(groups, key=lambda one: one[1]))


def places(sharing):
    """A dict from each buffer to the index of its group, the count of the group and its shift."""
    found = {}
    for at, (count, members) in enumerate(sharing):
        for buffer, shift in members:
            found[buffer] = (at, count, shift)
    return found


def slot_at(place, frame):
    """The group and the slot in which the buffer with this place lives in a frame."""
    group, count, shift = place
    return (group, (frame + shift) % count)


def _is_group(sizes, group):
    """Whether any value is a count with different buffers of one size and their shifts."""
    if not isinstance(group, tuple) or len(group) != 2:
        return False
    count, members = group
    if not within(count, 1, MOST_COUNT) or not isinstance(members, tuple) or not members:
        return False
    if not all([_is_member(sizes, member, count) for member in members]):
        return False
    names = [name for name, _ in members]
    return len(set(names)) == len(names) and len(set([sizes[name] for name in names])) == 1


def _is_member(sizes, member, count):
    if not isinstance(member, tuple) or len(member) != 2:
        return False
    return isinstance(member[0], str) and member[0] in sizes and within(member[1], 0, count - 1)
