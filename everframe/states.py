"""The states in which the jobs use the buffers, and the fewest changes of state."""

from everframe.assigning import Order
from everframe.costs import costs_between
from everframe.errors import NoBuffer
from everframe.fewest import sharing_of
from everframe.leading import leads_between
from everframe.slots import fewest_slots
from everframe.staterows import inner_changes, row_of_states, rows_of_states, turns

# A slot weighs more than all changes together, so that the fewest slots come first.
SLOT = 1000


def state_row(plan, buffer, wishes):
    """The states of an instance of the buffer, one after the other."""
    if buffer not in plan.web.buffers:
        raise NoBuffer(buffer)
    return row_of_states(plan.web, leads_between(plan), buffer, wishes)


def fewest_changes(plan, wishes):
    """("changes", slots, changes, sharing, prices), or what `fewest_slots` tells if no sharing fits."""
    web = plan.web
    leads = leads_between(plan)
    rows = rows_of_states(web, leads, wishes)
    found = fewest_slots(plan)
    if found[0] != "slots":
        return found
    costs = costs_between(web, plan.marks())
    weights = {r: {s: _weight(costs[r][s], turns(rows, r, s)) for s in costs[r]} for r in costs}
    orders = [Order(buffers, weights) for buffers in web.facts.alike]
    changes = inner_changes(rows) + sum([turns(rows, one, one) for one in web.facts.kept])
    prices = []
    for order in orders:
        changes += sum([turns(rows, one, order.followers[one]) for one in order.followers])
        prices.extend(_prices_of(order))
    return ("changes", found[1], changes, sharing_of(web, orders, costs), tuple(sorted(prices)))


def _weight(worth, turn):
    return None if worth is None else worth * SLOT + turn


def _prices_of(order):
    """The numbers of an order, taken apart into slots and changes."""
    begins = {one: _apart(order.first[one]) for one in order.first}
    ends = {one: _apart(order.ends[one]) for one in order.ends}
    least = min([begins[one][0] for one in begins])
    low = min([begins[one][1] for one in begins])
    return [
        (one, begins[one][0] - least, ends[one][0] - 1 - least, begins[one][1] - low, ends[one][1] - low)
        for one in begins
    ]


def _apart(number):
    """The slots and the changes in a sum of weights; the changes may be below 0."""
    slots = (number + SLOT // 2) // SLOT
    return (slots, number - slots * SLOT)
