"""Leads as values: joined along a way by *, the best one of several by +."""

from everframe.errors import InvalidLead, TooMany
from everframe.kinds import within


class Lead:
    """An integer from -10 ** 6 to 10 ** 6, or none."""

    MOST = 1000000

    def __init__(self, value=None):
        if value is not None and not within(value, -Lead.MOST, Lead.MOST):
            raise InvalidLead(value)
        self.value = value

    def __mul__(self, other):
        if not isinstance(other, Lead):
            return NotImplemented
        if self.value is None or other.value is None:
            return Lead()
        total = self.value + other.value
        if not within(total, -Lead.MOST, Lead.MOST):
            raise TooMany(Lead.MOST)
        return Lead(total)

    def __add__(self, other):
        if not isinstance(other, Lead):
            return NotImplemented
        if self.value is None:
            return Lead(other.value)
        if other.value is None or other.value <= self.value:
            return Lead(self.value)
        return Lead(other.value)

    def __eq__(self, other):
        return isinstance(other, Lead) and self.value == other.value

    def __bool__(self):
        return bool(self.value is not None)

    def __str__(self):
        if self.value is None:
            return "none"
        return str(self.value)

    def __repr__(self):
        return f"Lead({self.value})"


def along(*leads):
    """The lead along all of these, one behind the other."""
    total = Lead(0)
    for lead in leads:
        total = total * lead
    return total


def best(*leads):
    """The greatest of these leads."""
    greatest = Lead()
    for lead in leads:
        greatest = greatest + lead
    return greatest
