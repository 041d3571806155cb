"""Boards: plans that are edited, with undo and redo, watches and trials."""

from everframe.errors import Busy, InvalidPlan, NothingToRedo, NothingToUndo
from everframe.kinds import within
from everframe.layers import Layer, Position
from everframe.orders import is_wait


class Trial:
    """A suite behind which its board is as it was before."""

    def __init__(self, board):
        self._board = board

    def __enter__(self):
        board = self._board
        board._ask_free()
        board._layer = Layer(board._layer.position, board._layer)
        return board

    def __exit__(self, kind, value, trace):
        self._board._layer = self._board._layer.around


class Board:
    """A plan that is edited."""

    def __init__(self, plan):
        self._layer = Layer(Position(plan.twin()))
        self._watches = []
        self._is_busy = False

    @property
    def status(self):
        """The first item of the verdict."""
        return self._layer.position.finding[0]

    @property
    def verdict(self):
        """The verdict on the plan as it is."""
        return self._layer.position.finding

    @property
    def slots(self):
        """What fewest_slots tells of the plan, None if it stands still."""
        return self._layer.position.room

    @property
    def edits(self):
        """How many edits can be undone."""
        return len(self._layer.past)

    @property
    def undone(self):
        """How many edits can be redone."""
        return len(self._layer.future)

    def snapshot(self):
        """A copy of the plan as it is."""
        return self._layer.position.plan.twin()

    def add_wait(self, wait):
        """Add a wait; the new status."""
        self._ask_free()
        return self._edit(self._layer.position.plan.with_wait(wait))

    def drop_wait(self, wait):
        """Remove a wait; the new status."""
        self._ask_free()
        return self._edit(self._layer.position.plan.without_wait(wait))

    def move(self, job, place):
        """Put a job at another place of its row; the new status."""
        self._ask_free()
        plan = self.snapshot()
        queue = plan.web.queue_of(job)
        rows = plan.rows
        others = [one for one in rows[queue] if one != job]
        if not within(place, 0, len(others)):
            raise InvalidPlan("rows", queue)
        rows[queue] = [*others[:place], job, *others[place:]]
        plan.set_rows(rows)
        return self._edit(plan)

    def set_depth(self, depth):
        """Set the depth; the new status."""
        self._ask_free()
        plan = self.snapshot()
        plan.set_depth(depth)
        return self._edit(plan)

    def share(self, sharing):
        """Set the sharing; the new status."""
        self._ask_free()
        plan = self.snapshot()
        plan.set_sharing(sharing)
        return self._edit(plan)

    def undo(self):
        """Undo the last edit; the new status."""
        self._ask_free()
        layer = self._layer
        if not layer.past:
            raise NothingToUndo()
        layer.future.append(layer.position)
        return self._turn_to(layer.past.pop())

    def redo(self):
        """Carry out again the edit that was undone last; the new status."""
        self._ask_free()
        layer = self._layer
        if not layer.future:
            raise NothingToRedo()
        layer.past.append(layer.position)
        return self._turn_to(layer.future.pop())

    def watch(self, call):
        """Call this, with the status before and after, whenever the status changes."""
        self._watches.append(call)

    def on_trial(self, call):
        """What a call with this board returns; then the board is as it was before."""
        self._ask_free()
        layer = self._layer
        self._layer = Layer(layer.position, layer)
        try:
            return call(self)
        finally:
            self._layer = layer

    def trial(self):
        """A trial for a suite: behind it the board is as it was before."""
        self._ask_free()
        return Trial(self)

    def twin(self):
        """A board with the same plan and edits, without watches, outside of all trials."""
        other = Board(self._layer.position.plan)
        other._layer.past.extend(self._layer.past)
        other._layer.future.extend(self._layer.future)
        return other

    def __len__(self):
        return len(self._layer.past)

    def __eq__(self, other):
        return isinstance(other, Board) and self._layer.position.plan == other._layer.position.plan

    def __contains__(self, x):
        return is_wait(self._layer.position.plan.web, x) and x in self._layer.position.plan.waits

    def _ask_free(self):
        if self._is_busy:
            raise Busy()

    def _edit(self, plan):
        """Go on with a plan that nobody else has."""
        after = Position(plan)
        self._layer.past.append(self._layer.position)
        self._layer.future.clear()
        return self._turn_to(after)

    def _turn_to(self, position):
        before = self.status
        layer = self._layer
        layer.position = position
        if before != self.status and not layer.is_trial:
            self._tell(before, self.status)
        return self.status

    def _tell(self, before, after):
        self._is_busy = True
        try:
            # a watch that is added meanwhile has to await the next change
            for call in list(self._watches):
                call(before, after)
        finally:
            self._is_busy = False
