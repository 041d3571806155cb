"""The texts of webs and plans."""

from everframe.groups import apart_groups
from everframe.orders import listed_rows


def show_web(web):
    """The text of a web."""
    jobs = [_job_line(web, job) for job in web.jobs]
    sizes = [f"size {name} {web.size(name)}" for name in web.buffers if web.size(name) != 1]
    return "\n".join([*jobs, *sizes])


def show_plan(plan):
    """The text of a plan."""
    rows = _row_lines(plan)
    waits = [f"wait {job} {of} {back}" for job, of, back in plan.waits]
    depths = [] if plan.depth is None else [f"depth {plan.depth}"]
    groups = _group_lines(plan)
    return "\n".join([show_web(plan.web), *rows, *waits, *depths, *groups])


def _job_line(web, job):
    uses = [_use_word(use) for use in web.uses(job)]
    return " ".join(["job", job, str(web.queue_of(job)), *uses])


def _use_word(use):
    return ":".join([str(part) for part in use])


def _row_lines(plan):
    rows = plan.rows
    listed = listed_rows(plan.web)
    moved = [queue for queue in rows if rows[queue] != listed[queue]]
    return [" ".join(["row", str(queue), *rows[queue]]) for queue in moved]


def _group_lines(plan):
    if plan.sharing == apart_groups(plan.web.buffers):
        return []
    return [_group_line(count, members) for count, members in plan.sharing]


def _group_line(count, members):
    words = [f"{buffer}:{shift}" for buffer, shift in members]
    return " ".join(["group", str(count), *words])
