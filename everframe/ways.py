"""Ways along ties that have the fewest ties."""


def least_way(ties, of, job, total, most):
    """Of the ways with at least this lead one with the fewest ties, of several the least tuple.

    None if there is no such way with at most this many ties.
    """
    # reach[left] tells from which jobs a way with so many ties leads to the job,
    # and the greatest lead of such ways
    reach = [{job: 0}]
    for _ in range(most):
        reach.append(_one_tie_further(ties, reach[-1]))
        if of in reach[-1] and reach[-1][of] >= total:
            return _least_along(ties, of, total, reach)
    return None


def _one_tie_further(ties, reached):
    further = {}
    for before, after, total in ties:
        if after in reached:
            found = total + reached[after]
            further[before] = max(found, further.get(before, found))
    return further


def _least_along(ties, of, total, reach):
    """The least tuple among the ways from here that reach tells of."""
    chosen = []
    at = of
    rest = total
    for ahead in reach[-2::-1]:
        # the ties are ascending, so the first one that fits is the least
        fitting = [tie for tie in ties if tie[0] == at and tie[1] in ahead and tie[2] + ahead[tie[1]] >= rest]
        chosen.append(fitting[0])
        at = fitting[0][1]
        rest = rest - fitting[0][2]
    return tuple(chosen)
