"""The slots in which the buffers of a plan live, and what steps find and write there.

A spot is a tuple (base, count, shift) that tells in which slots a buffer lives: the slots
of all groups are numbered, one group behind the other, and base is the first one of its
group.
"""

from everframe.contents import last_content, last_done, right_content


class Memory:
    """The contents of the slots behind some steps of a run, and what these steps found wrong.

    `passed` tells of the steps that have been left out, as in contents.
    """

    def __init__(self, acts, sharing):
        self._acts = acts
        self._sharing = sharing
        self._spots = _spots_of(sharing)
        self._cells = [None] * sum([count for count, _ in sharing])
        self.passed = {}
        self.mistakes = []

    def twin(self):
        """Another memory with the same contents, which goes on by itself."""
        other = Memory(self._acts, self._sharing)
        other._cells = list(self._cells)
        other.passed = {step: self.passed[step] for step in self.passed}
        other.mistakes = list(self.mistakes)
        return other

    def content(self, buffer, frame):
        """What is in the slot in which the buffer of this frame lives."""
        base, count, shift = self._spots[buffer]
        return self._cells[base + (frame + shift) % count]

    def do_step(self, job, frame):
        """What the step finds; it clears and writes, and what is wrong is noted."""
        # no call for each slot and each look, as runs have many steps
        act = self._acts[job]
        spots, cells, passed = self._spots, self._cells, self.passed
        for buffer in act.cleared:
            base, count, shift = spots[buffer]
            cells[base + (frame + shift) % count] = None
        finds = []
        for look in act.looks:
            at = frame - look[1]
            if at >= 0:
                base, count, shift = spots[look[0]]
                content = cells[base + (at + shift) % count]
                due = right_content(look, at, passed) if passed else (look[2], at, look[0])
                finds.append((look[0], at, content))
                if content != due:
                    self._note(job, frame, finds[-1], due)
        for buffer in act.written:
            base, count, shift = spots[buffer]
            cells[base + (frame + shift) % count] = (job, frame, buffer)
        return tuple(finds)

    def leave_step(self, job, frame):
        """What the step finds if it is left out; what it carries is copied, and what is wrong is noted."""
        finds = []
        for buffer, last in self._acts[job].carried:
            before = self.content(buffer, frame - 1) if frame > 0 else None
            if frame > 0:
                due = last_content(buffer, last, frame - 1, self.passed)
                finds.append((buffer, frame - 1, before))
                if before != due:
                    self._note(job, frame, finds[-1], due)
            base, count, shift = self._spots[buffer]
            self._cells[base + (frame + shift) % count] = before
        self.passed[job, frame] = last_done(self.passed, job, frame - 1)
        return tuple(finds)

    def _note(self, job, frame, find, due):
        self.mistakes.append((job, frame, find, (find[0], find[1], due)))


def _spots_of(sharing):
    """A dict from each buffer to its spot."""
    spots = {}
    base = 0
    for count, members in sharing:
        for buffer, shift in members:
            spots[buffer] = (base, count, shift)
        base += count
    return spots
