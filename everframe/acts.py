"""What the steps of each job of a web look at and write, told once for all frames."""

from everframe.kinds import MAKING, OPTIONAL, age_of


class Act:
    """What the steps of one job look at, clear and write.

    `looks` has for each look the buffer, the age, whose content it should find, and who
    writes the buffer last of all; `carried` has each buffer that a step copies if it is
    left out, and who writes it last of all; `cleared` and `written` have buffers.
    """

    def __init__(self, uses, writers, last):
        seen = [(use[1], age_of(use)) for use in uses if use[0] == "read" or use[0] == "update"]
        self.looks = tuple([(name, age, last[name] if age > 0 else writers[name], last[name]) for name, age in seen])
        self.cleared = tuple([use[1] for use in uses if use[0] in MAKING])
        self.written = tuple([use[1] for use in uses if use[0] != "read"])
        self.carried = tuple([(use[1], last[use[1]]) for use in uses if use[0] == "carry"])
        self.optional = any([use[0] in OPTIONAL for use in uses])


def acts_of(jobs):
    """A dict from the name of each job (name, queue, uses) to its act."""
    last = {use[1]: name for name, _, uses in jobs for use in uses if use[0] != "read"}
    writers = {}
    acts = {}
    for name, _, uses in jobs:
        # each buffer with the last one that writes it ahead of this job
        acts[name] = Act(uses, writers, last)
        for buffer in acts[name].written:
            writers[buffer] = name
    return acts
