"""Slow checks of certificates, taken word by word from the document, and ways to spoil certificates."""

import itertools

from everframe.costs import cost_table
from everframe.leading import lead
from everframe.plans import Plan
from everframe.sharings import is_sharing
from tests import oracles
from tests.oracles import plain_int
from tests.samples import ODD


def kept(web):
    """The buffers that are made by a keep."""
    return [name for name in web.buffers if "keep" in [word for _, _, word in web.uses_of(name)]]


def costs_of(plan):
    """A dict from pairs of buffers to their costs."""
    return {one[:2]: one[2] for one in cost_table(plan)}


def shared(plan, sharing):
    """The plan with another sharing."""
    return Plan(plan.web, rows=plan.rows, waits=plan.waits, depth=plan.depth, sharing=sharing)


def first_clash(plan, sharing, costs):
    """The index of the first buffer that is a fault of a sharing, None if it fits."""
    other = shared(plan, sharing)
    clashing = oracles.nearest_clashes(other, costs)
    for at, name in enumerate(plan.web.buffers):
        if name in kept(plan.web) and (1, ((name, 0),)) not in other.sharing:
            return at
        if any(one == name for one, _, _ in clashing):
            return at
    return None


def fault_of_slots(plan, thing):
    """Why any value is nothing that `fewest_slots` may return; None if it is."""
    if thing.__class__ is not tuple or not thing or thing[0].__class__ is not str:
        return ("shape", -1)
    kinds = [part.__class__ for part in thing[1:]]
    if thing[0] == "slots" and kinds == [int, tuple, tuple]:
        return _fault_of_count(plan, *thing[1:])
    if thing[0] == "endless" and kinds == [str, str, tuple]:
        return _fault_of_endless(plan, *thing[1:])
    if thing[0] == "kept" and kinds == [str, str]:
        return _fault_of_kept(plan, *thing[1:])
    return ("shape", -1)


def _fault_of_count(plan, many, sharing, crowd):
    web, costs = plan.web, costs_of(plan)
    if not is_sharing(web, sharing):
        return ("sharing", -1)
    clash = first_clash(plan, sharing, costs)
    if clash is not None:
        return ("clash", clash)
    for at, entry in enumerate(crowd[:len(web.buffers)]):
        name = web.buffers[at]
        if entry.__class__ is not tuple or len(entry) != 3 or entry[0].__class__ is not str or entry[0] != name:
            return ("crowd", at)
        _, first, last = entry
        if not plain_int(first) or not plain_int(last) or first < 0 or last < first - 1:
            return ("crowd", at)
        if name in kept(web):
            if (first, last) != (0, 0):
                return ("crowd", at)
            continue
        for other, begin, end in crowd[:at + 1]:
            if other not in kept(web) and web.size(other) == web.size(name):
                for r, s, gap in ((name, other, end - first), (other, name, last - begin)):
                    if costs[r, s] is not None and not gap < costs[r, s]:
                        return ("crowd", at)
    if len(crowd) != len(web.buffers):
        return ("crowd", len(web.buffers))
    if many != sum(count for count, _ in sharing) or many != sum(last - first + 1 for _, first, last in crowd):
        return ("fewest", -1)
    return None


def _fault_of_endless(plan, buffer, user, jobs):
    web = plan.web
    if buffer not in web.buffers or buffer in kept(web):
        return ("buffer", -1)
    if user not in [job for job, _, _ in web.uses_of(buffer)]:
        return ("user", -1)
    if any(job.__class__ is not str or job not in web.jobs for job in jobs):
        return ("jobs", -1)
    if any(not jobs[at - 1] < jobs[at] for at in range(1, len(jobs))):
        return ("jobs", -1)
    if web.maker(buffer) not in jobs or user in jobs:
        return ("jobs", -1)
    for before, after, _ in oracles.ties(plan):
        if after in jobs and before not in jobs:
            return ("jobs", -1)
    return None


def _fault_of_kept(plan, buffer, user):
    web = plan.web
    if buffer not in kept(web):
        return ("buffer", -1)
    for job, age, _ in web.uses_of(buffer):
        total = lead(plan, job, web.maker(buffer)) if job == user else 0
        if job == user and (total is None or age - total > 1):
            return None
    return ("user", -1)


def fault_of_changes(plan, rows, thing):
    """Why any value shows no fewest changes, for these state rows; None if it does."""
    web, costs = plan.web, costs_of(plan)
    if thing.__class__ is not tuple or [part.__class__ for part in thing] != [str, int, int, tuple, tuple]:
        return ("shape", -1)
    if thing[0] != "changes":
        return ("shape", -1)
    _, slots, changes, sharing, prices = thing
    if not is_sharing(web, sharing) or first_clash(plan, sharing, costs) is not None:
        return ("sharing", -1)
    if slots != sum(count for count, _ in sharing):
        return ("slots", -1)
    due = [name for name in web.buffers if name not in kept(web)]
    for at, name in enumerate(due):
        if at >= len(prices) or prices[at].__class__ is not tuple or len(prices[at]) != 5:
            return ("price", at)
        if prices[at][0].__class__ is not str or prices[at][0] != name:
            return ("price", at)
        if not all(plain_int(part) for part in prices[at][1:]):
            return ("price", at)
        for one in prices[:at + 1]:
            if not (_price_holds(web, costs, rows, one, prices[at]) and _price_holds(web, costs, rows, prices[at],
                                                                                     one)):
                return ("price", at)
    if len(prices) > len(due):
        return ("price", len(due))
    inner = sum(len(row) - 1 for row in rows.values())
    behind = next_in_slot(shared(plan, sharing), costs)
    outer = {r: 1 if rows[r][-1] != rows[s][0] else 0 for r, s in behind.items()}
    if changes != inner + sum(outer.values()):
        return ("changes", -1)
    if sum(last - first + 1 for _, first, last, _, _ in prices) != slots - len(kept(web)):
        return ("sum", -1)
    if sum(high - low for _, _, _, low, high in prices) != sum(outer[name] for name in due):
        return ("sum", -1)
    return None


def _price_holds(web, costs, rows, one, other):
    r, first, _, low, _ = one
    s, _, last, _, high = other
    if web.size(r) != web.size(s) or costs[r, s] is None or last + 1 - first < costs[r, s]:
        return True
    most = 1 if rows[r][-1] != rows[s][0] else 0
    return last + 1 - first == costs[r, s] and high - low <= most


def next_in_slot(plan, costs):
    """For each buffer the one whose instance comes next in its slot, by comparing all instances."""
    found = {}
    for r in plan.web.buffers:
        here = oracles.home(plan, r, 500)
        later = []
        for s in plan.web.buffers:
            for d in range(-220, 221):
                if (s, d) != (r, 0) and oracles.home(plan, s, 500 + d) == here and d >= costs[r, s]:
                    later.append((s, d))
        # the next one is over before all others begin
        nearest = [
            (s, d) for s, d in later
            if all((t, e) == (s, d) or e - d >= costs[s, t] for t, e in later)
        ]
        found[r] = nearest[0][0]
    return found


def all_sharings(web, many):
    """All sharings of a web with so many slots."""
    for parts in _partitions(list(web.buffers)):
        if any(len({web.size(name) for name in part}) > 1 for part in parts):
            continue
        for counts in itertools.product(range(1, many + 1), repeat=len(parts)):
            if sum(counts) == many:
                yield from _with_shifts(parts, counts)


def _with_shifts(parts, counts):
    choices = []
    for part, count in zip(parts, counts):
        rest = itertools.product(range(count), repeat=len(part) - 1)
        choices.append([(count, tuple(zip(part, (0, *shifts)))) for shifts in rest])
    yield from itertools.product(*choices)


def _partitions(names):
    if not names:
        yield []
        return
    for parts in _partitions(names[1:]):
        yield [[names[0]], *parts]
        for at in range(len(parts)):
            yield [*parts[:at], [names[0], *parts[at]], *parts[at + 1:]]


def spoiled(rng, thing):
    """A value with one part changed somewhere inside."""
    if not isinstance(thing, tuple) or not thing or rng.random() < 0.1:
        return _instead_of(rng, thing)
    at = rng.randrange(len(thing))
    way = rng.random()
    if way < 0.1:
        return thing[:at] + thing[at + 1:]
    if way < 0.2:
        return thing[:at] + (thing[rng.randrange(len(thing))],) + thing[at:]
    if way < 0.25:
        other = rng.randrange(len(thing))
        parts = list(thing)
        parts[at], parts[other] = parts[other], parts[at]
        return tuple(parts)
    return thing[:at] + (spoiled(rng, thing[at]),) + thing[at + 1:]


def _instead_of(rng, thing):
    if plain_int(thing) and rng.random() < 0.7:
        return thing + rng.choice((-2, -1, -1, 1, 1, 2))
    if isinstance(thing, str) and rng.random() < 0.5:
        return rng.choice("abcwvtyhxrps")
    if isinstance(thing, tuple) and rng.random() < 0.3:
        return list(thing)
    return rng.choice(ODD)
