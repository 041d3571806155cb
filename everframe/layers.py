"""What a board keeps: its plan with what is told of it, and the edits."""

from everframe.slots import fewest_slots
from everframe.verdicts import verdict


class Position:
    """A plan that does not change any more, and what is told of it."""

    def __init__(self, plan):
        self.plan = plan
        self.finding = verdict(plan)
        self.room = None if self.finding[0] == "still" else fewest_slots(plan)


class Layer:
    """The position of a board, and those that can be come back to; each trial has a layer of its own."""

    def __init__(self, position, around=None):
        self.position = position
        self.past = []
        self.future = []
        self.is_trial = around is not None
        # around the outermost layer is this layer itself, so that leaving it changes nothing
        self.around = self if around is None else around
