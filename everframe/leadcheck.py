"""Whether a value is the lead table of a plan."""

from everframe.errors import InvalidCertificate
from everframe.kinds import is_int, within
from everframe.orders import is_tie

MOST_TIES = 99


def check_leads(plan, thing):
    """True for a lead table of the plan; otherwise InvalidCertificate tells what is wrong."""
    if not isinstance(thing, tuple) or not all([_is_row(plan, row) for row in thing]):
        raise InvalidCertificate("shape", -1)
    for at in range(1, len(thing)):
        if thing[at][:2] <= thing[at - 1][:2]:
            raise InvalidCertificate("order", at)
    entries = {(row[0], row[1]): (row[2], row[3]) for row in thing}
    ties = plan.ties
    for at, row in enumerate(thing):
        if not _is_backed(ties, entries, row):
            raise InvalidCertificate("entry", at)
    for at, row in enumerate(thing):
        if row[0] == row[1] and row[2] >= 0:
            raise InvalidCertificate("still", at)
    _refuse_first("tie", ties, entries, _reaches)
    _refuse_first("steps", ties, entries, _is_short)
    return True


def _is_row(plan, row):
    """Whether any value is a tuple of two jobs, a lead, a number of ties and a tuple."""
    if not isinstance(row, tuple) or len(row) != 5:
        return False
    of, job, lead, steps, last = row
    if of not in plan or job not in plan:
        return False
    return is_int(lead) and within(steps, 1, MOST_TIES) and isinstance(last, tuple)


def _is_backed(ties, entries, row):
    """Whether the last tie, behind another entry or alone, gives this entry."""
    of, job, lead, steps, last = row
    if not is_tie(ties, last) or last[1] != job:
        return False
    if steps == 1:
        return last[0] == of and last[2] == lead
    return entries.get((of, last[0])) == (lead - last[2], steps - 1)


def _refuse_first(reason, ties, entries, is_right):
    """Raise the reason for the first tie that some entry, or none, does not go along with."""
    for at, (before, after, lead) in enumerate(ties):
        # the tie alone is a way as well, behind one without any ties
        heads = [(before, 0, 0)]
        heads.extend([(of, *entries[of, job]) for of, job in entries if job == before])
        wholes = [(entries.get((of, after)), total + lead, steps + 1) for of, total, steps in heads]
        if not all([is_right(entry, total, steps) for entry, total, steps in wholes]):
            raise InvalidCertificate(reason, at)


def _reaches(entry, total, _):
    """Whether an entry is at least as great as a way with this lead."""
    return entry is not None and entry[0] >= total


def _is_short(entry, total, steps):
    """Whether an entry has no more ties than a way with its lead."""
    return entry[0] > total or entry[1] <= steps
