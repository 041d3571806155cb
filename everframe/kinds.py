"""What kinds of values there are: integers within bounds, names, uses and jobs."""

MAKING = ("make", "keep", "carry")
OPTIONAL = ("keep", "carry")


def is_int(value):
    """Whether any value is an integer (a bool is none)."""
    return isinstance(value, int) and not isinstance(value, bool)


def within(value, least, most):
    """Whether any value is an integer from least to most."""
    return isinstance(value, int) and not isinstance(value, bool) and least <= value <= most


def is_name(value):
    """Whether any value is a name: one to eight letters a to z."""
    if not isinstance(value, str) or len(value) > 8:
        return False
    # an empty string has no letters
    return value.isalpha() and value.islower() and value.isascii()


def is_use(value):
    """Whether any value is a use of a buffer."""
    if not isinstance(value, tuple) or len(value) < 2 or not is_name(value[1]):
        return False
    if value[0] == "read":
        return len(value) == 3 and within(value[2], 0, 3)
    return len(value) == 2 and (value[0] == "update" or value[0] in MAKING)


def is_job(value):
    """Whether any value is a job: a name, a queue and a tuple of uses."""
    if not isinstance(value, tuple) or len(value) != 3:
        return False
    name, queue, uses = value
    if not is_name(name) or not within(queue, 0, 3) or not isinstance(uses, tuple):
        return False
    return all([is_use(use) for use in uses])


def age_of(use):
    """How many frames back a use looks; only reads look back."""
    return use[2] if use[0] == "read" else 0
