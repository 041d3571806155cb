"""Tables of leads, costs and slots, as text."""

from everframe.costs import costs_between
from everframe.groups import places, slot_at
from everframe.rings import refuse_standstill

HEAD = 8
COLUMN = 9


def lead_grid(plan):
    """A table with the lead of each line's job on each column's job."""
    refuse_standstill(plan)
    jobs, marks = plan.web.jobs, plan.marks()
    return _grid(jobs, {of: {job: marks.lead(of, job) for job in jobs} for of in jobs})


def cost_grid(plan):
    """A table with the cost of each column's buffer behind each line's buffer."""
    refuse_standstill(plan)
    return _grid(plan.web.buffers, costs_between(plan.web, plan.marks()))


def slot_grid(plan, *, frames=6):
    """A table with the buffers that live in each slot, frame by frame."""
    refuse_standstill(plan)
    lives = places(plan.sharing)
    lines = []
    for group, (count, members) in enumerate(plan.sharing):
        names = [buffer for buffer, _ in members]
        for slot in range(count):
            cells = [_living(lives, names, (group, slot), frame) for frame in range(frames)]
            lines.append(_line(f"{group}.{slot}", cells))
    return "\n".join(lines)


def _grid(names, numbers):
    """A table with a line and a column for each name, by a dict of dicts of numbers."""
    lines = [_line("", names)]
    for one in names:
        lines.append(_line(one, [_cell(numbers[one][other]) for other in names]))
    return "\n".join(lines)


def _cell(number):
    return "-" if number is None else str(number)


def _living(lives, names, slot, frame):
    """The buffers of one group that live in a slot in a frame."""
    return "+".join([name for name in names if slot_at(lives[name], frame) == slot]) or "."


def _line(head, cells):
    return head.ljust(HEAD) + "".join([cell.rjust(COLUMN) for cell in cells])
