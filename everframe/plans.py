"""Plans: a web with the rows of its queues, waits, a depth and a sharing."""

from everframe.errors import InvalidPlan
from everframe.groups import checked_sharing
from everframe.orders import Orders, checked_depth, checked_rows, checked_waits, is_wait
from everframe.parsing import parse_plan
from everframe.texts import show_plan
from everframe.webs import Web


class Plan:
    """In which order the queues run the jobs of a web, and where the buffers live."""

    MOST_BACK = 4

    def __init__(self, web, *, rows=None, waits=(), depth=None, sharing=None):
        self._web = web
        self._orders = Orders(checked_rows(web, rows), checked_waits(web, waits), checked_depth(depth))
        self._sharing = checked_sharing(web, sharing)

    @property
    def web(self):
        """The web of the plan."""
        return self._web

    @property
    def rows(self):
        """A new dict from the queues that have jobs, ascending, to their rows."""
        return {queue: self._orders.row_of[queue] for queue in self._orders.row_of}

    @rows.setter
    def rows(self, value):
        self._orders = Orders(checked_rows(self._web, value), self._orders.listed_waits, self._orders.limit)

    @property
    def waits(self):
        """The ascending tuple of the waits."""
        return self._orders.listed_waits

    @waits.setter
    def waits(self, value):
        self._orders = Orders(self._orders.row_of, checked_waits(self._web, value), self._orders.limit)

    @property
    def depth(self):
        """The depth, or None."""
        return self._orders.limit

    @depth.setter
    def depth(self, value):
        self._orders = Orders(self._orders.row_of, self._orders.listed_waits, checked_depth(value))

    @property
    def sharing(self):
        """The ascending tuple of the groups."""
        return self._sharing

    @sharing.setter
    def sharing(self, value):
        self._sharing = checked_sharing(self._web, value)

    @property
    def ties(self):
        """The ascending tuple of the ties that count."""
        return self._orders.tied

    def set_rows(self, value):
        """Give the plan other rows."""
        self.rows = value

    def set_waits(self, value):
        """Give the plan other waits."""
        self.waits = value

    def set_depth(self, value):
        """Give the plan another depth."""
        self.depth = value

    def set_sharing(self, value):
        """Give the plan another sharing."""
        self.sharing = value

    def with_wait(self, wait):
        """A new plan with this wait."""
        if not is_wait(self._web, wait):
            raise InvalidPlan("waits", 0)
        return self._waiting([*self._orders.listed_waits, wait])

    def without_wait(self, wait):
        """A new plan without this wait, which the plan must have."""
        if not is_wait(self._web, wait) or wait not in self._orders.listed_waits:
            raise InvalidPlan("waits", 0)
        return self._waiting([one for one in self._orders.listed_waits if one != wait])

    def twin(self):
        """Another plan that is equal to this one."""
        return self._with(self._orders)

    def starts(self):
        """For each job the most ties of a way in one frame to it, an empty dict with a standstill."""
        return self._orders.starts()

    def marks(self):
        """The marks of the jobs, from which all leads follow; there must be no standstill."""
        return self._orders.marks()

    def __contains__(self, x):
        return x in self._web

    def __len__(self):
        return len(self._orders.listed_waits)

    def __eq__(self, other):
        return (
            isinstance(other, Plan)
            and self._web == other._web
            and self._orders.row_of == other._orders.row_of
            and self._orders.listed_waits == other._orders.listed_waits
            and self._orders.limit == other._orders.limit
            and self._sharing == other._sharing
        )

    def __repr__(self):
        return f"Plan({len(self._web)} jobs, {len(self._orders.listed_waits)} waits)"

    def __str__(self):
        return str(show_plan(self))

    @classmethod
    def read(cls, text):
        """The plan with this text."""
        jobs, sizes, rows, waits, depth, sharing = parse_plan(text)
        web = Web(*jobs, sizes=sizes)
        return cls(web, rows=rows, waits=waits, depth=depth, sharing=sharing)

    def _waiting(self, waits):
        """A new plan that has these waits, and all else from this one."""
        return self._with(Orders(self._orders.row_of, tuple(sorted(set(waits))), self._orders.limit))

    def _with(self, orders):
        """A new plan that has these orders, and all else from this one."""
        other = Plan(self._web)
        # both have been checked, and they never change
        other._orders = orders
        other._sharing = self._sharing
        return other
