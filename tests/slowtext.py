"""A slow reader of texts, by patterns for each word of each sort of line, and ways to spoil texts."""

import re

from everframe.plans import Plan
from everframe.webs import Web

NAME = "[a-z]{1,8}"
SHIFT = "(?:0|[1-9][0-9]?|1[0-9][0-9])"
USE = f"(?:(?:make|keep|carry|update):{NAME}|read:{NAME}:[0-3])"
COUNT = "(?:[1-9][0-9]?|1[0-9][0-9]|200)"
MEMBER = f"{NAME}:{SHIFT}"
# for each sort the patterns of its words, and the pattern of all that may follow
SORTS = {
    "job": ([NAME, "[0-3]"], USE), "size": ([NAME, "[1-9]"], None), "row": (["[0-3]", NAME], NAME),
    "wait": ([NAME, NAME, "[0-4]"], None), "depth": (["[1-4]"], None), "group": ([COUNT, MEMBER], MEMBER),
}
ORDER = ("job", "size", "row", "wait", "depth", "group")


def fault_of_text(text, sorts):
    """The line and the word that are wrong, None if the text is of the form."""
    if not isinstance(text, str):
        return (0, 0)
    lines = [line.split(" ") for line in text.split("\n")]
    for at, words in enumerate(lines):
        word = fault_of_line(words, lines[:at], sorts)
        if word is not None:
            return (at, word)
    return None


def fault_of_line(words, before, sorts):
    """The index of the first wrong word of a line behind these lines, None if there is none."""
    if words[0] not in sorts or (not before and words[0] != "job"):
        return 0
    if before:
        last = ORDER.index(before[-1][0])
        if ORDER.index(words[0]) < last or (words[0] == "depth" and before[-1][0] == "depth"):
            return 0
    patterns, more = SORTS[words[0]]
    for at in range(1, max(len(words), len(patterns) + 1)):
        if at >= len(words):
            return len(words)
        pattern = patterns[at - 1] if at <= len(patterns) else more
        if pattern is None or not re.fullmatch(pattern, words[at]):
            return at
        if at == 1 and words[0] in ("size", "row") and any(line[:2] == words[:2] for line in before):
            return 1
    return None


def slow_read(text, whole):
    """The web or, if it is the whole text, the plan that a text of the form tells of."""
    lines = [line.split(" ") for line in text.split("\n")]
    jobs = []
    for line in lines:
        if line[0] == "job":
            uses = []
            for word in line[3:]:
                parts = word.split(":")
                uses.append((parts[0], parts[1], int(parts[2])) if parts[0] == "read" else (parts[0], parts[1]))
            jobs.append((line[1], int(line[2]), tuple(uses)))
    web = Web(*jobs, sizes={line[1]: int(line[2]) for line in lines if line[0] == "size"})
    if not whole:
        return web
    groups = []
    for line in lines:
        if line[0] == "group":
            groups.append((int(line[1]), tuple((word.split(":")[0], int(word.split(":")[1])) for word in line[2:])))
    depths = [int(line[1]) for line in lines if line[0] == "depth"]
    return Plan(
        web, rows={int(line[1]): line[2:] for line in lines if line[0] == "row"},
        waits=[(line[1], line[2], int(line[3])) for line in lines if line[0] == "wait"],
        depth=depths[0] if depths else None, sharing=tuple(groups) if groups else None,
    )


WORDS = (
    "job", "size", "row", "wait", "depth", "group", "a", "q", "abcdefgh", "abcdefghi", "A", "0", "1", "3", "4", "5",
    "9", "10",
    "00", "01", "-1", "+1", "199", "200", "201", "1000", "", "make:a", "make:q", "keep:q", "carry:q", "update:q",
    "read:q:0",
    "read:q:4", "read:q", "make:q:0", "q:0", "q:199", "q:200", "q:00", "q:", ":0", ":", "q:0:0", "none", "/",
    "\u0661", "read:q:\u0661",
)


def spoiled_text(rng, text):
    """The text with some words or lines changed."""
    lines = [line.split(" ") for line in text.split("\n")]
    for _ in range(rng.choice((1, 1, 1, 2))):
        at = rng.randrange(len(lines))
        line = list(lines[at])
        way = rng.randrange(7)
        place = rng.randrange(len(line) + 1)
        if way == 0 and line:
            del line[rng.randrange(len(line))]
        elif way == 1:
            line.insert(place, rng.choice(WORDS))
        elif way == 2:
            line[min(place, len(line) - 1)] = rng.choice(WORDS)
        elif way == 3:
            lines.insert(rng.randrange(len(lines) + 1), list(line))
        elif way == 4:
            other = rng.randrange(len(lines))
            lines[at], lines[other] = lines[other], lines[at]
            continue
        elif way == 5:
            lines.insert(at, [rng.choice(WORDS) for _ in range(rng.randint(1, 4))])
            continue
        else:
            line = spoiled_letters(rng, line)
        if line:
            lines[at] = line
    return "\n".join([" ".join(line) for line in lines])


def spoiled_letters(rng, line):
    """The line with one sign changed, taken out or put in."""
    text = " ".join(line)
    at = rng.randrange(len(text) + 1)
    sign = rng.choice(" :\n0123459abqZ-/")
    return rng.choice((text[:at] + text[at + 1:], text[:at] + sign + text[at:],
                       text[:at] + sign + text[at + 1:])).split(" ")
