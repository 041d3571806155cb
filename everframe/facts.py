"""What follows from the jobs of a web and is asked again and again, told once."""

from everframe.acts import acts_of
from everframe.kinds import MAKING
from everframe.needs import needs_between


class Facts:
    """What follows from the jobs (name, queue, uses) of a web, the uses and the sizes of its buffers.

    `needed` has the needs, `acts` what each job does, `makers` and `words` who makes each
    buffer and with which word. `kept` has the buffers made by a keep, `free` all others,
    `alike` these in one list for each size. `lives` has the life uses (job, age) of each
    buffer, `copied` those that another buffer in its slot has to await.
    """

    def __init__(self, jobs, used, sizes):
        self.needed = needs_between(used)
        self.acts = acts_of(jobs)
        self.makers = {use[1]: job for job, _, uses in jobs for use in uses if use[0] in MAKING}
        self.words = {use[1]: use[0] for _, _, uses in jobs for use in uses if use[0] in MAKING}
        self.kept = [name for name in used if self.words[name] == "keep"]
        self.free = [name for name in used if self.words[name] != "keep"]
        self.alike = _alike(self.free, sizes)
        self.lives = {name: [(job, age) for job, age, _ in used[name]] for name in used}
        self.copied = {name: [*self.lives[name], *_copies(used[name])] for name in used}


def _alike(names, sizes):
    found = {}
    for name in names:
        found.setdefault(sizes[name], []).append(name)
    return [found[size] for size in sorted(list(found))]


def _copies(uses):
    """If a carry is left out, it reads the instance of the frame before."""
    return [(job, 1) for job, _, word in uses if word == "carry"]
