"""Which sharings there are, and where an instance lives."""

from everframe.errors import InvalidSharing, NoBuffer
from everframe.groups import MOST_COUNT, checked_sharing, places, slot_at
from everframe.kinds import within


def is_sharing(web, thing):
    """Whether any value is a sharing of the web, in any order."""
    if thing is None:
        return False
    try:
        checked_sharing(web, thing)
    except InvalidSharing:
        return False
    return True


def apart(web, counts=None):
    """The sharing in which each buffer is alone in its group, with these counts."""
    given = {} if counts is None else counts
    unknown = sorted([name for name in given if name not in web.buffers])
    if unknown:
        raise NoBuffer(unknown[0])
    groups = [(given.get(name, 1), ((name, 0),)) for name in web.buffers]
    for at, (count, _) in enumerate(groups):
        if not within(count, 1, MOST_COUNT):
            raise InvalidSharing(at)
    return tuple(groups)


def slot_of(plan, buffer, frame):
    """The group and the slot in which the instance (buffer, frame) lives."""
    if buffer not in plan.web.buffers:
        raise NoBuffer(buffer)
    return slot_at(places(plan.sharing)[buffer], frame)
