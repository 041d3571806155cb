"""What the lines said to a desk mean, checked as far as their form goes."""

from everframe.errors import InvalidCommand
from everframe.kinds import is_name

# For each command of a fixed length the kinds of the words behind it.
FORMS = {
    "wait": ("name", "name", "number"),
    "unwait": ("name", "name", "number"),
    "depth": ("depth",),
    "move": ("name", "number"),
    "undo": (),
    "redo": (),
    "text": (),
    "verdict": (),
    "unmet": (),
    "clashes": (),
    "lead": ("name", "name"),
    "cost": ("name", "name"),
    "least": (),
    "slots": (),
    "place": ("name", "frame"),
}

MOST_DIGITS = {"number": 3, "depth": 3, "frame": 30, "length": 12}


def parse_command(line):
    """The first word of any value that is a command, and a list of what the others mean."""
    if not isinstance(line, str):
        raise InvalidCommand(0)
    words = line.split(" ")
    if words[0] == "plan":
        if len(words) < 2:
            raise InvalidCommand(1)
        return ("plan", [line[5:].replace(" / ", "\n")])
    if words[0] == "share":
        return ("share", [_sharing_said(words)])
    if words[0] == "period":
        return ("period", [_lengths_said(words)])
    if words[0] not in FORMS:
        raise InvalidCommand(0)
    return (words[0], _parts_said(words, FORMS[words[0]]))


def _parts_said(words, kinds):
    for at, word in enumerate(words[1:]):
        if at >= len(kinds) or not _is_written(word, kinds[at]):
            raise InvalidCommand(at + 1)
    if len(words) <= len(kinds):
        raise InvalidCommand(len(words))
    return [_meaning(word, kind) for word, kind in zip(words[1:], kinds)]


def _is_written(word, kind):
    """Whether a word is written as one of its kind."""
    if kind == "name":
        return is_name(word)
    return (kind == "depth" and word == "none") or _is_number(word, MOST_DIGITS[kind])


def _meaning(word, kind):
    if kind == "name":
        return word
    return None if word == "none" else int(word)


def _is_number(word, most):
    """Whether a word is an integer in at most so many digits, without zeros ahead."""
    if len(word) < 1 or len(word) > most or not all(["0" <= sign <= "9" for sign in word]):
        return False
    return word == "0" or word[0] != "0"


def _is_pair(word, most):
    """Whether a word is a name and a number with a colon between them."""
    parts = word.split(":")
    return len(parts) == 2 and is_name(parts[0]) and _is_number(parts[1], most)


def _sharing_said(words):
    """The groups of a sharing; None if all buffers are apart."""
    if words[1:2] == ["apart"]:
        if len(words) > 2:
            raise InvalidCommand(2)
        return None
    groups = []
    due = "count"
    for at, word in enumerate(words[1:]):
        if due == "count" and _is_number(word, MOST_DIGITS["number"]):
            groups.append((int(word), []))
            due = "member"
        elif due != "count" and _is_pair(word, MOST_DIGITS["number"]):
            name, shift = word.split(":")
            groups[-1][1].append((name, int(shift)))
            due = "more"
        elif due == "more" and word == "/":
            due = "count"
        else:
            raise InvalidCommand(at + 1)
    if due != "more":
        raise InvalidCommand(len(words))
    return tuple([(count, tuple(members)) for count, members in groups])


def _lengths_said(words):
    """A dict from jobs to lengths, each job once."""
    lengths = {}
    for at, word in enumerate(words[1:]):
        if not _is_pair(word, MOST_DIGITS["length"]):
            raise InvalidCommand(at + 1)
        name, length = word.split(":")
        if name in lengths or length == "0":
            raise InvalidCommand(at + 1)
        lengths[name] = int(length)
    return lengths
