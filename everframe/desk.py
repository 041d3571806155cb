"""A desk: a plan that is edited and asked about in words."""

from everframe.boards import Board
from everframe.commands import parse_command
from everframe.costs import clashes, cost
from everframe.errors import InvalidCommand
from everframe.leading import lead, unmet
from everframe.reader import read_plan
from everframe.sharings import slot_of
from everframe.slots import fewest_slots
from everframe.speeds import least_period
from everframe.texts import show_plan
from everframe.verdicts import verdict
from everframe.waiting import least_waits


class Desk:
    """Carries out commands, each a line of words."""

    def __init__(self):
        self._board = None

    def say(self, line):
        """Carry out a command; its answer."""
        word, parts = parse_command(line)
        if word == "plan":
            self._board = Board(read_plan(parts[0]))
            return "ok"
        if self._board is None:
            raise InvalidCommand(0)
        if word in EDITS:
            edit = EDITS[word]
            edit(self._board, parts)
            return "ok"
        answer = ANSWERS[word]
        return answer(self._board.snapshot(), parts)


def _wait(board, parts):
    board.add_wait(tuple(parts))


def _unwait(board, parts):
    board.drop_wait(tuple(parts))


def _depth(board, parts):
    board.set_depth(parts[0])


def _move(board, parts):
    board.move(parts[0], parts[1])


def _share(board, parts):
    board.share(parts[0])


def _undo(board, _):
    board.undo()


def _redo(board, _):
    board.redo()


def _text(plan, _):
    return show_plan(plan).replace("\n", " / ")


def _verdict(plan, _):
    word, shown = verdict(plan)
    if word != "still":
        return word
    return "still " + " > ".join([before for before, _, _ in shown])


def _unmet(plan, _):
    return _listed(unmet(plan))


def _clashes(plan, _):
    return str(len(list(clashes(plan))))


def _lead(plan, parts):
    return _number(lead(plan, parts[0], parts[1]))


def _cost(plan, parts):
    return _number(cost(plan, parts[0], parts[1]))


def _least(plan, _):
    return _listed(least_waits(plan))


def _slots(plan, _):
    found = fewest_slots(plan)
    return str(found[1]) if found[0] == "slots" else f"{found[0]} {found[1]}"


def _place(plan, parts):
    group, slot = slot_of(plan, parts[0], parts[1])
    return f"{group} {slot}"


def _period(plan, parts):
    top, bottom, _, _ = least_period(plan, parts[0])
    return f"{top}/{bottom}"


def _number(value):
    return "none" if value is None else str(value)


def _listed(triples):
    """Triples of two jobs and a number, as a list in an answer."""
    return "; ".join([f"{one} {other} {number}" for one, other, number in triples]) or "none"


EDITS = {
    "wait": _wait,
    "unwait": _unwait,
    "depth": _depth,
    "move": _move,
    "share": _share,
    "undo": _undo,
    "redo": _redo,
}

ANSWERS = {
    "text": _text,
    "verdict": _verdict,
    "unmet": _unmet,
    "clashes": _clashes,
    "lead": _lead,
    "cost": _cost,
    "least": _least,
    "slots": _slots,
    "place": _place,
    "period": _period,
}
