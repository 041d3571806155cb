"""What the texts of webs and plans say, checked as far as their form goes."""

from everframe.errors import InvalidText
from everframe.kinds import MAKING, is_name

WEB_SORTS = ("job", "size")
PLAN_SORTS = ("job", "size", "row", "wait", "depth", "group")

# For each sort of line the kinds of the words that it must have behind the
# first one, and the kind of those that may follow (an empty string for none).
FORMS = {
    "job": (("name", "queue"), "use"),
    "size": (("name", "size"), ""),
    "row": (("queue", "name"), "name"),
    "wait": (("name", "name", "back"), ""),
    "depth": (("depth",), ""),
    "group": (("count", "member"), "member"),
}

BOUNDS = {
    "queue": (0, 3),
    "size": (1, 9),
    "age": (0, 3),
    "back": (0, 4),
    "depth": (1, 4),
    "count": (1, 200),
    "shift": (0, 199),
}


def parse_web(text):
    """The jobs and the sizes of which the text of a web tells."""
    return _jobs_and_sizes(_checked_lines(text, WEB_SORTS))


def parse_plan(text):
    """The jobs, the sizes, the rows, the waits, the depth and the sharing of a plan's text."""
    lines = _checked_lines(text, PLAN_SORTS)
    jobs, sizes = _jobs_and_sizes(lines)
    rows = {int(words[1]): tuple(words[2:]) for words in lines if words[0] == "row"}
    waits = [(words[1], words[2], int(words[3])) for words in lines if words[0] == "wait"]
    depths = [int(words[1]) for words in lines if words[0] == "depth"]
    groups = [_group_said(words) for words in lines if words[0] == "group"]
    depth = depths[0] if depths else None
    sharing = tuple(groups) if groups else None
    return (jobs, sizes, rows, waits, depth, sharing)


def _jobs_and_sizes(lines):
    jobs = [_job_said(words) for words in lines if words[0] == "job"]
    sizes = {words[1]: int(words[2]) for words in lines if words[0] == "size"}
    return (jobs, sizes)


def _job_said(words):
    return (words[1], int(words[2]), tuple([_use_said(word) for word in words[3:]]))


def _use_said(word):
    parts = word.split(":")
    if parts[0] == "read":
        return ("read", parts[1], int(parts[2]))
    return (parts[0], parts[1])


def _group_said(words):
    members = [word.split(":") for word in words[2:]]
    return (int(words[1]), tuple([(parts[0], int(parts[1])) for parts in members]))


def _checked_lines(text, sorts):
    """The words of each line; raise InvalidText for the first line that is not right."""
    if not isinstance(text, str):
        raise InvalidText(0, 0)
    lines = []
    for at, line in enumerate(text.split("\n")):
        words = line.split(" ")
        wrong = _first_wrong(words, lines, sorts)
        if wrong is not None:
            raise InvalidText(at, wrong)
        lines.append(words)
    return lines


def _first_wrong(words, before, sorts):
    """The index of the first word that is wrong or missing, None if there is none."""
    if not _may_follow(words[0], before, sorts):
        return 0
    if words[0] in ("size", "row") and words[:2] in [line[:2] for line in before]:
        return 1
    needed, more = FORMS[words[0]]
    for at, word in enumerate(words[1:]):
        kind = needed[at] if at < len(needed) else more
        if not _is_written(word, kind):
            return at + 1
    return len(words) if len(words) <= len(needed) else None


def _may_follow(sort, before, sorts):
    """Whether a line of this sort may stand behind the lines before it."""
    if not before:
        return sort == "job"
    last = before[-1][0]
    if sort == last:
        return sort != "depth"
    return sort in sorts and sorts.index(sort) > sorts.index(last)


def _is_written(word, kind):
    """Whether a word is written as one of its kind."""
    if kind == "name":
        return is_name(word)
    if kind in BOUNDS:
        low, high = BOUNDS[kind]
        return _is_number(word, low, high)
    parts = word.split(":")
    if kind == "use":
        return _is_use_written(parts)
    return kind == "member" and len(parts) == 2 and is_name(parts[0]) and _is_written(parts[1], "shift")


def _is_use_written(parts):
    if len(parts) < 2 or not is_name(parts[1]):
        return False
    if parts[0] == "read":
        return len(parts) == 3 and _is_written(parts[2], "age")
    return len(parts) == 2 and (parts[0] == "update" or parts[0] in MAKING)


def _is_number(word, low, high):
    # an empty word has no digits
    if len(word) > 3 or not word.isdigit() or not word.isascii():
        return False
    return low <= int(word) <= high and (word[0] != "0" or word == "0")
