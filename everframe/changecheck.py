"""Whether a value shows the fewest changes of state."""

from everframe.costs import costs_between
from everframe.errors import InvalidCertificate
from everframe.kinds import is_int
from everframe.leading import leads_between
from everframe.sharings import is_sharing
from everframe.staterows import followers_in, inner_changes, rows_of_states, turns
from everframe.verdicts import faults


def check_changes(plan, wishes, thing):
    """True for what `fewest_changes` may return; otherwise InvalidCertificate tells what is wrong."""
    web = plan.web
    leads = leads_between(plan)
    rows = rows_of_states(web, leads, wishes)
    if not _is_told(thing):
        raise InvalidCertificate("shape", -1)
    _, slots, changes, sharing, prices = thing
    if not is_sharing(web, sharing) or not _fits(plan, sharing):
        raise InvalidCertificate("sharing", -1)
    if slots != sum([count for count, _ in sharing]):
        raise InvalidCertificate("slots", -1)
    costs = costs_between(web, plan.marks())
    _check_prices(web, costs, rows, prices)
    followers = followers_in(sharing, costs)
    turned = {one: turns(rows, one, followers[one]) for one in followers}
    if changes != inner_changes(rows) + sum([turned[one] for one in turned]):
        raise InvalidCertificate("changes", -1)
    free = web.facts.free
    crowded = sum([last - first + 1 for _, first, last, _, _ in prices])
    paid = sum([high - low for _, _, _, low, high in prices])
    if crowded != slots - (len(web.buffers) - len(free)) or paid != sum([turned[one] for one in free]):
        raise InvalidCertificate("sum", -1)
    return True


def _is_told(thing):
    """Whether any value is the word with two integers and two tuples."""
    if not isinstance(thing, tuple) or len(thing) != 5 or thing[0] != "changes":
        return False
    return is_int(thing[1]) and is_int(thing[2]) and isinstance(thing[3], tuple) and isinstance(thing[4], tuple)


def _fits(plan, sharing):
    shared = plan.twin()
    shared.set_sharing(sharing)
    return not [fault for fault in list(faults(shared)) if fault[0] != "need"]


def _check_prices(web, costs, rows, prices):
    free = web.facts.free
    for at, buffer in enumerate(free):
        if at >= len(prices) or not _is_price(buffer, prices[at]):
            raise InvalidCertificate("price", at)
        alike = [one for one in prices[:at + 1] if web.size(one[0]) == web.size(buffer)]
        if not all([_hold(costs, rows, prices[at], one) for one in alike]):
            raise InvalidCertificate("price", at)
    if len(prices) > len(free):
        raise InvalidCertificate("price", len(free))


def _is_price(buffer, price):
    """Whether any value is this buffer's name with four integers."""
    if not isinstance(price, tuple) or len(price) != 5 or price[0] != buffer:
        return False
    return all([is_int(part) for part in price[1:]])


def _hold(costs, rows, one, other):
    """Whether the prices of two buffers go together, whichever of them follows the other one."""
    return _holds(costs, rows, one, other) and _holds(costs, rows, other, one)


def _holds(costs, rows, one, other):
    """Whether the second buffer behind the first one is not paid more than its cost."""
    worth = costs[one[0]][other[0]]
    if worth is None:
        return True
    gap = other[2] + 1 - one[1]
    return gap < worth or (gap == worth and other[4] - one[3] <= turns(rows, one[0], other[0]))
