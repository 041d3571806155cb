import re
import unittest

from everframe.boards import Board
from everframe.costs import clashes, cost
from everframe.desk import Desk
from everframe.errors import FrameError, InvalidCommand, Standstill
from everframe.leading import lead, unmet
from everframe.plans import Plan
from everframe.reader import read_plan
from everframe.sharings import slot_of
from everframe.slots import fewest_slots
from everframe.speeds import least_period
from everframe.verdicts import verdict
from everframe.waiting import least_waits
from tests import oracles
from tests.samples import E2, G2, ODD, P1, P2, caught, random_plan, random_sharing, rng_of

TEXT = "job w 0 make:h / job v 1 read:h:1 / job t 1 make:x / job y 1 read:x:0 / wait v w 1 / wait w y 1"
STILL = TEXT + " / wait w v 0 / wait v w 0"


def text_of(plan):
    """The text of a plan as it is told to a desk."""
    return str(plan).replace("\n", " / ")


def desk_with(plan):
    desk = Desk()
    assert desk.say("plan " + text_of(plan)) == "ok"
    return desk


def listed(triples):
    return "; ".join(" ".join(str(part) for part in one) for one in triples) or "none"


NAME = "[a-z]{1,8}"
NUMBER = "(?:0|[1-9][0-9]{0,2})"
MEMBER = f"{NAME}:{NUMBER}"
FORMS = {
    "wait": [NAME, NAME, NUMBER], "unwait": [NAME, NAME, NUMBER], "depth": [f"(?:none|{NUMBER})"],
    "move": [NAME, NUMBER],
    "undo": [], "redo": [], "text": [], "verdict": [], "unmet": [], "clashes": [], "lead": [NAME, NAME],
    "cost": [NAME, NAME],
    "least": [], "slots": [], "place": [NAME, "(?:0|[1-9][0-9]{0,29})"],
}


def fault_of_line(line):
    """The word that InvalidCommand tells of a line that is no `plan`, None if it is of the form."""
    if not isinstance(line, str):
        return 0
    words = line.split(" ")
    if words[0] == "period":
        for at, word in enumerate(words[1:], start=1):
            if not re.fullmatch(f"{NAME}:[1-9][0-9]{{0,11}}", word):
                return at
            if word.split(":")[0] in [one.split(":")[0] for one in words[1:at]]:
                return at
        return None
    if words[0] == "share":
        return fault_of_share(words)
    if words[0] not in FORMS:
        return 0
    forms = FORMS[words[0]]
    for at in range(1, max(len(words), len(forms) + 1)):
        if at >= len(words) or at > len(forms) or not re.fullmatch(forms[at - 1], words[at]):
            return at
    return None


def fault_of_share(words):
    """Each beginning of the words that may be continued tells that the next word can stand there."""
    if len(words) > 1 and words[1] == "apart":
        return 2 if len(words) > 2 else None
    group = f"{NUMBER}(?: {MEMBER})+"
    for at in range(1, len(words)):
        begun = " ".join(words[1:at + 1])
        if not re.fullmatch(f"(?:{group} / )*(?:{NUMBER}|{group}|{group} /)", begun) or not words[at]:
            return at
    whole = " ".join(words[1:])
    return None if re.fullmatch(f"{group}(?: / {group})*", whole) else len(words)


class TestExamples(unittest.TestCase):
    def test_examples(self):
        desk = Desk()
        self.assertEqual([desk.say("plan " + TEXT), desk.say("slots")], ["ok", "2"])
        self.assertEqual([desk.say("verdict"), desk.say("share 2 h:0 x:1"), desk.say("verdict"),
                          desk.say("place h 7"), desk.say("cost h h")],
                         ["wrong", "ok", "right", "0 1", "2"])
        self.assertEqual([desk.say("undo"), desk.say("lead w v"), desk.say("unmet"), desk.say("period v:3")],
                         ["ok", "-1", "none", "5/1"])
        self.assertEqual(caught(desk.say, "lead w"), ("InvalidCommand", 2))
        self.assertEqual(caught(desk.say, "lead w v "), ("InvalidCommand", 3))
        self.assertEqual(desk.say(line="lead w v"), "-1")


class TestPlan(unittest.TestCase):
    def test_text(self):
        desk = Desk()
        for plan in (P1, P2, Plan(E2, depth=3), Plan(E2, rows={1: ("y", "t", "v")})):
            self.assertEqual([desk.say("plan " + text_of(plan)), desk.say("text")], ["ok", text_of(plan)])
            # a newline that stands there stays one
            self.assertEqual([desk.say(f"plan {plan}"), desk.say("text")], ["ok", text_of(plan)])

    def test_without_text(self):
        desk = Desk()
        self.assertEqual(caught(desk.say, "plan"), ("InvalidCommand", 1))
        self.assertEqual(caught(desk.say, "plan "), ("InvalidText", 0, 0))
        self.assertEqual(caught(desk.say, "plan  "), ("InvalidText", 0, 0))
        self.assertEqual(caught(desk.say, "plan\njob a 0"), ("InvalidCommand", 0))

    def test_errors_of_the_text(self):
        for desk in (Desk(), desk_with(P2)):
            before = caught(desk.say, "text") or desk.say("text")
            for text, error in (
                ("-", ("InvalidText", 0, 0)), ("job a 0 / job b", ("InvalidText", 1, 2)),
                ("job a 0 /", ("InvalidText", 0, 3)),
                ("/ job a 0", ("InvalidText", 0, 0)), (" job a 0", ("InvalidText", 0, 0)),
                ("job a 0 / ", ("InvalidText", 1, 0)),
                ("job a 0 / / job b 0", ("InvalidText", 1, 0)), ("job a 0  / job b 0", ("InvalidText", 0, 3)),
                ("job a 0 / job a 0", ("InvalidWeb", "name", 1)), ("job a 0 / wait a b 0", ("InvalidPlan", "waits", 0)),
                ("job a 0 make:r / job b 0 read:r:0 / group 1 r:1", ("InvalidSharing", 0)),
                ("job a 0\njob b", ("InvalidText", 1, 2)),
            ):
                self.assertEqual(caught(desk.say, "plan " + text), error)
            self.assertEqual(caught(desk.say, "text") or desk.say("text"), before)

    def test_no_edits_to_take_back(self):
        desk = desk_with(P1)
        desk.say("depth 2")
        desk.say("depth 3")
        desk.say("undo")
        self.assertEqual(desk.say("plan " + TEXT), "ok")
        self.assertEqual([caught(desk.say, "undo"), caught(desk.say, "redo")], [("NothingToUndo",), ("NothingToRedo",)])

    def test_a_plan_that_cannot_be_read_changes_nothing(self):
        desk = desk_with(P2)
        desk.say("depth 2")
        caught(desk.say, "plan job")
        self.assertEqual([desk.say("undo"), desk.say("text")], ["ok", text_of(P2)])


class TestForm(unittest.TestCase):
    def check(self, line, word, desks=None):
        for desk in desks or (Desk(), desk_with(P2)):
            before = caught(desk.say, "text") or desk.say("text")
            self.assertEqual(caught(desk.say, line), ("InvalidCommand", word), line)
            self.assertEqual(caught(desk.say, "text") or desk.say("text"), before)

    def test_values_that_are_no_commands(self):
        for value in (*ODD, P1, ["text"], "", " ", "text\n", "Text", " text", "tex", "none", "share\n", "-", "say",
                      "status", "period\n"):
            self.check(value, 0)

    def test_without_a_plan(self):
        for line in ("wait v w 1", "unwait a b 0", "depth none", "move a 3", "share apart", "share 1 h:0", "undo",
                     "redo", "text", "verdict",
                     "unmet", "clashes", "lead q q", "least", "cost q q", "slots", "place q 9", "period", "period q:1"):
            self.assertEqual(caught(Desk().say, line), ("InvalidCommand", 0))

    def test_words_missing_or_too_many(self):
        desks = (Desk(), desk_with(P2))
        whole = {"wait": "v w 1", "unwait": "v w 1", "depth": "2", "move": "v 0", "undo": "", "redo": "", "text": "",
                 "verdict": "", "unmet": "",
                 "clashes": "", "lead": "v w", "cost": "h x", "least": "", "slots": "", "place": "h 3"}
        for sort, rest in whole.items():
            words = [sort, *rest.split(" ")] if rest else [sort]
            for many in range(1, len(words)):
                self.check(" ".join(words[:many]), many, desks)
                # an empty word
                self.check(" ".join([*words[:many], "", *words[many:]]), many, desks)
            for more in ("", "a", "0", "none", "/"):
                self.check(" ".join([*words, more]), len(words), desks)

    def test_words_that_are_not_written_so(self):
        desks = (Desk(), desk_with(P2))
        names = ("", "A", "1", "abcdefghi", "a1", "a:0", "none1", "a\n", "-", "a-b")
        numbers = ("", "-1", "01", "00", "+1", "x", "1.0", "1000", "0000", "\u0661", "1\n", "1_0", "none")
        for line, at, kind in (("wait {} w 1", 1, "name"), ("wait v {} 1", 2, "name"), ("wait v w {}", 3, "number"),
                               ("unwait {} w 1", 1, "name"),
                               ("unwait v {} 1", 2, "name"), ("unwait v w {}", 3, "number"), ("move {} 1", 1, "name"),
                               ("move v {}", 2, "number"),
                               ("lead {} w", 1, "name"), ("lead w {}", 2, "name"), ("cost {} h", 1, "name"),
                               ("cost h {}", 2, "name"),
                               ("place {} 1", 1, "name"), ("place h {}", 2, "long"), ("depth {}", 1, "number"),
                               ("share {} h:0", 1, "number")):
            words = names if kind == "name" else numbers
            for word in words:
                if (kind == "long" and word in ("1000",)) or (word == "none" and line.startswith("depth")):
                    continue
                self.check(line.format(word), at, desks)

    def test_digits(self):
        desk = desk_with(P2)
        self.assertEqual(desk.say("place h " + "9" * 30), "0 1")
        self.check("place h 1" + "0" * 30, 2, (desk,))
        self.assertEqual(caught(desk.say, "wait v w 999"), ("InvalidPlan", "waits", 0))
        self.check("wait v w 1000", 3, (desk,))
        self.assertEqual(desk.say("period v:999999999999"), "1000000000001/1")
        self.check("period v:1000000000000", 1, (desk,))
        self.check("period v:0", 1, (desk,))
        self.assertEqual(caught(desk.say, "share 999 h:0 x:0"), ("InvalidSharing", 0))
        self.check("share 1000 h:0", 1, (desk,))
        self.check("share 1 h:0000", 2, (desk,))

    def test_share(self):
        desks = (Desk(), desk_with(P2))
        for line, word in (
            ("share", 1), ("share ", 1), ("share 2", 2), ("share 2 ", 2), ("share 2 h", 2), ("share 2 h:", 2),
            ("share 2 h:0 x", 3), ("share h:0", 1),
            ("share 2 h:0 /", 4), ("share 2 h:0 / 3", 5), ("share 2 h:0 / x:1", 4), ("share 2 / 3 h:0", 2),
            ("share / 2 h:0", 1),
            ("share 2 h:0 / / 2 x:1", 4), ("share 2 h:0 / 2 x:1 /", 7), ("share 2 h:0 3 x:1", 3),
            ("share apart x", 2), ("share apart ", 2),
            ("share Apart", 1), ("share 2 apart", 2), ("share 2 h:0 apart", 3), ("share 2 h:0  / 2 x:1", 3),
            ("share 2 h:0 /  2 x:1", 4),
            ("share 2 h:00", 2), ("share 2 h:1:1", 2), ("share 2 H:1", 2), ("share 2 :1", 2), ("share 2 h:-1", 2),
        ):
            self.check(line, word, desks)
            self.assertEqual(fault_of_line(line), word)

    def test_period(self):
        desks = (Desk(), desk_with(P2))
        for line, word in (("period ", 1), ("period v", 1), ("period v:", 1), ("period v:x", 1), ("period v:01", 1),
                           ("period V:1", 1), ("period v:1 ", 2),
                           ("period v:1 v:1", 2), ("period v:1 w:2 v:3", 3), ("period q:1 q:1", 2),
                           ("period v:1  w:1", 2), ("period v:1:1", 1)):
            self.check(line, word, desks)

    def test_random_lines(self):
        rng = rng_of(341)
        words = ("a", "v", "w", "h", "x", "q", "none", "0", "1", "2", "4", "999", "1000", "01", "", "/", "h:0", "x:1",
                 "h:1000", "v:3", "w:9999", "q:1",
                 "v:0", "apart", "V", "-", "abcdefghi", "1" * 30, "1" * 31, "h:", ":1", "text")
        whole = ("share 2 h:0 x:1", "share 200 h:3 / 2 x:1", "period v:1 w:3 y:999 t:4", "wait v w 1", "unwait v w 1",
                 "move t 0", "place h 7")
        desk = desk_with(P2)
        faults = []
        for _ in range(6000):
            sort = rng.choice((*FORMS, "share", "share", "share", "period", "period", rng.choice(words)))
            line = " ".join([sort, *[rng.choice(words) for _ in range(rng.choice((0, 1, 2, 2, 3, 3, 4, 5, 7)))]])
            if rng.random() < 0.5:
                parts = rng.choice(whole).split(" ")
                parts[rng.randrange(len(parts)):] = [rng.choice(words), *parts[rng.randrange(len(parts)):]]
                line = " ".join(parts)
            faults.append(fault_of_line(line))
            error = caught(desk.say, line)
            if faults[-1] is not None:
                self.assertEqual(error, ("InvalidCommand", faults[-1]), line)
            else:
                self.assertTrue(error is None or error[0] != "InvalidCommand", line)
        self.assertTrue(min(faults.count(at) for at in (None, 0, 1, 2, 3, 4)) > 10)


class TestCommands(unittest.TestCase):
    def test_edits(self):
        desk = desk_with(P2)
        for line, plan in (
            ("wait y w 3", P2.with_wait(("y", "w", 3))), ("unwait v w 1", P2.without_wait(("v", "w", 1))),
            ("depth 4", Plan(E2, waits=P2.waits, sharing=G2, depth=4)),
            ("move t 0", Plan(E2, waits=P2.waits, sharing=G2, rows={1: ("t", "v", "y")})),
            ("move v 2", Plan(E2, waits=P2.waits, sharing=G2, rows={1: ("t", "y", "v")})),
            ("share apart", Plan(E2, waits=P2.waits)),
            ("share 3 x:1 h:2", Plan(E2, waits=P2.waits, sharing=((3, (("h", 2), ("x", 1))),))),
            ("share 7 x:6 / 200 h:199", Plan(E2, waits=P2.waits, sharing=((200, (("h", 199),)), (7, (("x", 6),))))),
        ):
            self.assertEqual([desk.say(line), desk.say("text")], ["ok", text_of(plan)])
            self.assertEqual([desk.say("undo"), desk.say("text"), desk.say("redo"), desk.say("text")],
                             ["ok", text_of(P2), "ok", text_of(plan)])
            desk.say("undo")
        desk.say("depth 2")
        self.assertEqual([desk.say("depth none"), desk.say("text"), desk.say("undo"), desk.say("text")],
                         ["ok", text_of(P2), "ok", text_of(Plan(E2, waits=P2.waits, sharing=G2, depth=2))])

    def test_errors_of_edits(self):
        desk = desk_with(P2)
        desk.say("depth 1")
        desk.say("depth 2")
        desk.say("undo")
        before = desk.say("text")
        for line, error in (
            ("wait q w 1", ("InvalidPlan", "waits", 0)), ("wait w h 1", ("InvalidPlan", "waits", 0)),
            ("wait v w 5", ("InvalidPlan", "waits", 0)),
            ("unwait v w 2", ("InvalidPlan", "waits", 0)), ("unwait q w 1", ("InvalidPlan", "waits", 0)),
            ("depth 0", ("InvalidPlan", "depth", -1)),
            ("depth 5", ("InvalidPlan", "depth", -1)), ("depth 999", ("InvalidPlan", "depth", -1)),
            ("move q 9", ("NoJob", "q")), ("move h 0", ("NoJob", "h")),
            ("move v 3", ("InvalidPlan", "rows", 1)), ("move w 1", ("InvalidPlan", "rows", 0)),
            ("share 0 h:0 x:0", ("InvalidSharing", 0)),
            ("share 201 h:0 x:0", ("InvalidSharing", 0)), ("share 2 h:0 x:2", ("InvalidSharing", 0)),
            ("share 2 h:0", ("InvalidSharing", 1)),
            ("share 2 h:0 / 3 h:0", ("InvalidSharing", 1)), ("share 2 h:0 h:1", ("InvalidSharing", 0)),
            ("share 2 q:0", ("InvalidSharing", 0)),
            ("share 2 h:0 / 1 w:0", ("InvalidSharing", 1)),
        ):
            self.assertEqual(caught(desk.say, line), error, line)
            self.assertEqual(desk.say("text"), before)
        self.assertEqual([desk.say("redo"), desk.say("undo"), desk.say("undo"), caught(desk.say, "undo"),
                          desk.say("text")],
                         ["ok", "ok", "ok", ("NothingToUndo",), text_of(P2)])
        self.assertEqual([desk.say("redo"), desk.say("redo"), caught(desk.say, "redo")],
                         ["ok", "ok", ("NothingToRedo",)])

    def test_names_that_are_not_in_the_plan(self):
        for desk in (desk_with(P2), desk_with(read_plan(STILL.replace(" / ", "\n")))):
            for line, error in (
                ("lead q w", ("NoJob", "q")), ("lead w q", ("NoJob", "q")), ("lead h q", ("NoJob", "h")),
                ("cost q h", ("NoBuffer", "q")),
                ("cost h w", ("NoBuffer", "w")), ("place q 1", ("NoBuffer", "q")), ("place w 1", ("NoBuffer", "w")),
                ("period q:3 b:1", ("NoJob", "b")),
                ("period h:3 w:1", ("NoJob", "h")),
            ):
                self.assertEqual(caught(desk.say, line), error)

    def test_standstill(self):
        desk = Desk()
        desk.say("plan " + STILL)
        for line in ("unmet", "clashes", "lead w v", "cost h x", "least", "slots", "period", "period v:2"):
            with self.assertRaises(Standstill) as error:
                desk.say(line)
            self.assertTrue(oracles.is_ring(read_plan(STILL.replace(" / ", "\n")), error.exception.ring))
        self.assertIn(desk.say("verdict"), ("still w > v", "still v > w"))
        self.assertEqual([desk.say("place h 3"), desk.say("text")[:9], desk.say("unwait w v 0"), desk.say("verdict")],
                         ["0 0", "job w 0 m", "ok", "wrong"])
        alone = Desk()
        alone.say("plan job a 0 / wait a a 0")
        self.assertEqual(alone.say("verdict"), "still a")

    def test_slots(self):
        desk = Desk()
        desk.say("plan job w 0 keep:h / job v 1 read:h:1 / wait v w 1")
        self.assertEqual([desk.say("slots"), desk.say("wait w v 0"), desk.say("slots")], ["kept h", "ok", "1"])
        desk.say("plan job w 0 make:h / job v 1 read:h:1 / wait v w 1")
        self.assertEqual([desk.say("slots"), desk.say("cost h h"), desk.say("lead v w"), desk.say("unmet"),
                          desk.say("least")],
                         ["endless h", "none", "none", "none", "v w 1"])
        desk.say("plan job w 0")
        self.assertEqual([desk.say("slots"), desk.say("clashes"), desk.say("least"), desk.say("unmet"),
                          desk.say("period")], ["0", "0", "none", "none", "1/1"])

    def test_lists(self):
        desk = Desk()
        desk.say("plan " + text_of(Plan(P1.web)))
        self.assertEqual(desk.say("unmet"), "a d 0; c f 0")
        desk.say("plan " + text_of(P1.with_wait(("e", "a", 0))))
        self.assertEqual(desk.say("least"), "a f 1; d a 0; f c 0")

    def test_two_desks(self):
        one, other = desk_with(P1), desk_with(P2)
        one.say("depth 1")
        self.assertEqual([other.say("text"), caught(other.say, "undo")], [text_of(P2), ("NothingToUndo",)])

    def test_every_question(self):
        rng = rng_of(342)
        for _ in range(80):
            plan = random_plan(rng)
            desk = desk_with(plan)
            self.check(rng, desk, plan)
            board = Board(plan)
            for _ in range(5):
                self.edit(rng, desk, board)
                self.check(rng, desk, board.snapshot())

    def edit(self, rng, desk, board):
        """The same random edit of a desk and of a board."""
        web = board.snapshot().web
        kind = rng.choice(("wait", "unwait", "depth", "move", "share", "undo", "redo"))
        wait = (rng.choice(web.jobs), rng.choice(web.jobs), rng.randint(0, 4))
        sharing = random_sharing(rng, web) or None
        groups = "apart" if sharing is None else " / ".join(
            " ".join([str(count), *[f"{name}:{shift}" for name, shift in members]]) for count, members in sharing)
        depth = rng.choice((None, 1, 2, 5))
        calls = {
            "wait": (lambda: board.add_wait(wait), "wait {} {} {}".format(*wait)),
            "unwait": (lambda: board.drop_wait(wait), "unwait {} {} {}".format(*wait)),
            "depth": (lambda: board.set_depth(depth), "depth " + ("none" if depth is None else str(depth))),
            "move": (lambda: board.move(wait[0], wait[2]), f"move {wait[0]} {wait[2]}"),
            "share": (lambda: board.share(sharing), "share " + groups),
            "undo": (board.undo, "undo"), "redo": (board.redo, "redo"),
        }
        call, line = calls[kind]
        error = caught(call)
        self.assertEqual(caught(desk.say, line), error)

    def check(self, rng, desk, plan):
        web = plan.web
        self.assertEqual([desk.say("text"), desk.say("verdict").split(" ")[0]], [text_of(plan), verdict(plan)[0]])
        if web.buffers:
            name, frame = rng.choice(web.buffers), rng.randint(0, 10 ** 29)
            self.assertEqual(desk.say(f"place {name} {frame}"), "{} {}".format(*slot_of(plan, name, frame)))
        if verdict(plan)[0] == "still":
            jobs = desk.say("verdict").removeprefix("still ").split(" > ")
            ring = tuple((job, jobs[(at + 1) % len(jobs)], 0) for at, job in enumerate(jobs))
            self.assertTrue(oracles.is_ring(plan, ring))
            self.assertRaises(Standstill, desk.say, "slots")
            return
        one, other = rng.choice(web.jobs), rng.choice(web.jobs)
        told = lead(plan, one, other)
        self.assertEqual(desk.say(f"lead {one} {other}"), "none" if told is None else str(told))
        if web.buffers:
            r, s = rng.choice(web.buffers), rng.choice(web.buffers)
            worth = cost(plan, r, s)
            self.assertEqual(desk.say(f"cost {r} {s}"), "none" if worth is None else str(worth))
        found = fewest_slots(plan)
        self.assertEqual(desk.say("slots"), str(found[1]) if found[0] == "slots" else f"{found[0]} {found[1]}")
        self.assertEqual([desk.say("unmet"), desk.say("least")], [listed(unmet(plan)), listed(least_waits(plan))])
        self.assertEqual(desk.say("clashes"), str(len(list(clashes(plan)))))
        lengths = {job: rng.randint(1, 10 ** 12 - 1) for job in web.jobs if rng.random() < 0.5}
        line = " ".join(["period", *[f"{job}:{length}" for job, length in lengths.items()]])
        self.assertEqual(desk.say(line), "{}/{}".format(*least_period(plan, lengths)[:2]))


class TestBases(unittest.TestCase):
    def test_invalid_command(self):
        with self.assertRaises(FrameError) as error:
            Desk().say(None)
        self.assertEqual([error.exception.__class__, error.exception.word], [InvalidCommand, 0])


if __name__ == "__main__":
    unittest.main()
