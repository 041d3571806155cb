"""Whether a value is a verdict on a plan."""

from everframe.errors import InvalidCertificate
from everframe.flowcheck import check_flow
from everframe.kinds import is_int
from everframe.leadcheck import check_leads
from everframe.rings import find_ring
from everframe.runs import Run
from everframe.verdicts import faults

RANKS = {"need": 0, "keep": 1, "clash": 2}


def check_verdict(plan, thing):
    """True for what `verdict` may return; otherwise InvalidCertificate tells what is wrong."""
    if not _is_told(thing):
        raise InvalidCertificate("shape", -1)
    word, shown = thing
    if word == "still":
        check_flow(plan, ("ring", shown))
    elif word == "wrong":
        _check_run(plan, shown)
    else:
        check_leads(plan, shown)
        found = list(faults(plan))
        if found:
            raise InvalidCertificate("fault", RANKS[found[0][0]])
    return True


def _is_told(thing):
    """Whether any value is a word and a tuple, for a run one that is not too short or too long."""
    if not isinstance(thing, tuple) or len(thing) != 2 or not isinstance(thing[1], tuple):
        return False
    if thing[0] == "wrong":
        return 1 <= len(thing[1]) <= Run.MOST_STEPS
    return thing[0] in ("still", "right")


def _check_run(plan, steps):
    if find_ring(plan) is not None:
        raise InvalidCertificate("still", -1)
    run = Run(plan)
    for at, step in enumerate(steps):
        if not _is_possible(run, step):
            raise InvalidCertificate("step", at)
        job, frame, left_out = step
        run.take(job, frame, left_out)
        if run.wrong and at < len(steps) - 1:
            raise InvalidCertificate("found", at)
    if not run.wrong:
        raise InvalidCertificate("found", len(steps))


def _is_possible(run, step):
    """Whether any value is a step that may come next in a run."""
    if not isinstance(step, tuple) or len(step) != 3:
        return False
    job, frame, left_out = step
    if job not in run.web or not is_int(frame) or not isinstance(left_out, bool):
        return False
    if left_out and not run.web.can_be_left_out(job):
        return False
    return run.frame(job) == frame and job in run.ready
