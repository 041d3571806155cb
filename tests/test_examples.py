"""The examples that the document gives for the modules."""

import unittest

from everframe.boards import Board
from everframe.changecheck import check_changes
from everframe.costs import clashes, cost, cost_table
from everframe.desk import Desk
from everframe.errors import InvalidText, InvalidWeb
from everframe.flowcheck import check_flow
from everframe.flows import flow
from everframe.joining import cut_queue, renamed, side_by_side, twice
from everframe.leadcheck import check_leads
from everframe.leading import closed_lot, lead, lead_table, way
from everframe.leads import Lead, along, best
from everframe.needs import needs
from everframe.paces import Ahead, Behind, Listed, Pace, beginning
from everframe.plain import plain_content, plain_run
from everframe.plans import Plan
from everframe.reader import read_plan, read_web
from everframe.runs import Run
from everframe.sharings import apart, is_sharing, slot_of
from everframe.slotcheck import check_slots
from everframe.slots import fewest_slots
from everframe.speeds import check_period, first_starts, least_period
from everframe.states import fewest_changes, state_row
from everframe.tables import cost_grid, lead_grid
from everframe.texts import show_plan
from everframe.verdictcheck import check_verdict
from everframe.verdicts import faults, verdict
from everframe.waiting import follows, least_waits, needed_waits, planned, savings
from everframe.webs import Web
from tests.samples import C, E1, E2, G2, P1, P2, U, caught, told


class TestExamples(unittest.TestCase):
    def test_leads(self):
        a, b = Lead(-1), Lead()
        values = [
            a * Lead(-2), a * b, a + b, b == Lead(), bool(b), bool(Lead(0)), str(b), along(a, a), best(),
            best(a, Lead(-3)),
        ]
        self.assertEqual(repr(values), (
            "[Lead(-3), Lead(None), Lead(-1), True, False, True, 'none', Lead(-2), Lead(None), Lead(-1)]"
        ))

    def test_webs(self):
        found = [
            E2.jobs, E2.buffers, E2.queues, E2.uses_of("h"), E2.maker("x"), E2.size("x"),
            E2.can_be_left_out("w"), len(E2),
        ]
        self.assertEqual(repr(found), (
            "[('w', 'v', 't', 'y'), ('h', 'x'), (0, 1), (('w', 0, 'make'), ('v', 1, 'read')), 't', 1, False, 4]"
        ))
        for jobs, reason in (
            ((("a", 0, (("read", "r", 0),)), ("b", 0, (("make", "r"),))), ("ahead", 0)),
            ((("a", 0, (("make", "a"),)), ("b", 0, (("read", "a", 0),))), ("name", 0)),
        ):
            with self.assertRaises(InvalidWeb) as error:
                Web(*jobs)
            self.assertEqual((error.exception.reason, error.exception.job), reason)

    def test_plain_run(self):
        self.assertEqual(list(plain_run(E2, frames=2)), [
            ("w", 0, ()), ("v", 0, ()), ("t", 0, ()), ("y", 0, (("x", 0, ("t", 0, "x")),)), ("w", 1, ()),
            ("v", 1, (("h", 0, ("w", 0, "h")),)), ("t", 1, ()), ("y", 1, (("x", 1, ("t", 1, "x")),)),
        ])
        found = [
            plain_content(C, "h", 3, left_out=[("w", 3), ("w", 2)]), plain_content(C, "h", 0, left_out=[("w", 0)]),
        ]
        self.assertEqual(found, [("w", 1, "h"), None])
        self.assertEqual(list(plain_run(C, frames=2, left_out=(("w", 1),))), [
            ("w", 0, ()), ("v", 0, ()), ("w", 1, (("h", 0, ("w", 0, "h")),)), ("v", 1, (("h", 0, ("w", 0, "h")),)),
        ])

    def test_needs(self):
        self.assertEqual([needs(E1), needs(E2), needs(C)], [
            (("a", "b", 0), ("a", "d", 0), ("c", "f", 0), ("e", "f", 0)), (("t", "y", 0), ("w", "v", 1)),
            (("w", "v", 1), ("w", "w", 1)),
        ])
        self.assertEqual(needs(U), (("m", "u", 0), ("m", "x", 0), ("u", "z", 2), ("x", "u", 0)))

    def test_plans(self):
        found = [P2.rows, P2.ties, len(P2), "w" in P2, P2.without_wait(("w", "y", 1)).waits]
        self.assertEqual(found, [
            {0: ("w",), 1: ("v", "t", "y")},
            (("t", "y", 0), ("v", "t", 0), ("w", "v", -1), ("w", "w", -1), ("y", "v", -1), ("y", "w", -1)),
            2, True, (("v", "w", 1),),
        ])
        self.assertEqual(P1.ties, (
            ("a", "b", 0), ("a", "d", 0), ("b", "c", 0), ("c", "a", -1), ("c", "f", 0), ("d", "e", 0),
            ("e", "f", 0), ("f", "a", -1), ("f", "d", -1),
        ))

    def test_leading(self):
        found = [lead(P2, "v", "w"), lead(P2, "t", "w"), lead(P2, "w", "w"), way(P2, "v", "w")]
        self.assertEqual(found, [-1, -1, -1, (("v", "t", 0), ("t", "y", 0), ("y", "w", -1))])
        self.assertEqual(closed_lot(P2, "v", 1, 2), (("t", 0), ("v", 0), ("w", 0), ("w", 1), ("y", 0)))

    def test_flows(self):
        self.assertEqual([flow(P1)[0], flow(P1.with_wait(("a", "f", 0)))[0]], ["timetable", "ring"])

    def test_leadcheck(self):
        self.assertIs(check_leads(P2, lead_table(P2)), True)

    def test_flowcheck(self):
        self.assertIs(check_flow(P1, ("timetable", (0, 1, 2, 1, 2, 3), 4)), True)
        self.assertEqual(told(check_flow, P1, ("timetable", (0, 1, 2, 1, 2, 3), 3)), ("tie", 7))
        self.assertEqual(told(check_flow, P1, ("ring", (("a", "b", 0),))), ("ring", 0))

    def test_runs(self):
        run = Run(P1)
        found = [run.ready, run.do("a"), run.ready, run.do("d"), run.frame("d"), run.ready, run.content("r", 5)]
        self.assertEqual(found, [
            ("a",), (), ("b", "d"), (("r", 0, ("a", 0, "r")),), 1, ("b", "e"), ("a", 0, "r"),
        ])
        tight = Plan(E1, waits=P1.waits, sharing=((1, (("r", 0), ("p", 0))), (1, (("s", 0),))))
        run = Run.after(tight, (("a", 0, False), ("b", 0, False), ("c", 0, False)))
        self.assertEqual([run.expected("d"), run.do("d"), run.wrong], [
            (("r", 0, ("a", 0, "r")),), (("r", 0, ("c", 0, "p")),),
            (("d", 0, ("r", 0, ("c", 0, "p")), ("r", 0, ("a", 0, "r"))),),
        ])
        self.assertEqual(caught(run.do, "b"), ("NotReady", "b"))

    def test_paces(self):
        self.assertEqual([step[:2] for step in beginning(P1, Ahead(0), steps=5)],
                         [("a", 0), ("b", 0), ("c", 0), ("d", 0), ("e", 0)])
        self.assertEqual([step[:2] for step in beginning(P1, Behind(0), steps=5)],
                         [("a", 0), ("d", 0), ("e", 0), ("b", 0), ("c", 0)])
        self.assertEqual([step[3] for step in beginning(P1, Listed("a", "b", "d"), steps=3)],
                         [(), (("r", 0, ("a", 0, "r")),), (("r", 0, ("a", 0, "r")),)])
        error = caught(lambda: list(beginning(P1, Pace(), left_out=(("b", 0),))))
        self.assertEqual(error, ("CannotLeaveOut", "b"))

    def test_sharings(self):
        found = [
            is_sharing(E2, G2), is_sharing(E2, G2 + G2), is_sharing(E2, ((1, (("h", 0), ("x", 1))),)),
            is_sharing(E2, ()),
        ]
        self.assertEqual(found, [True, False, False, False])
        self.assertEqual([apart(E2, {"h": 2}), apart(E2)], [
            ((2, (("h", 0),)), (1, (("x", 0),))), ((1, (("h", 0),)), (1, (("x", 0),))),
        ])
        self.assertEqual([slot_of(P2, "h", 0), slot_of(P2, "x", 1), slot_of(P2, "x", 10 ** 30)],
                         [(0, 0), (0, 0), (0, 1)])

    def test_costs(self):
        self.assertEqual(cost_table(P2), (("h", "h", 2), ("h", "x", 1), ("x", "h", 1), ("x", "x", 1)))
        self.assertEqual([list(clashes(P2)), list(clashes(Plan(E2, waits=P2.waits)))], [[], [("h", "h", 1)]])
        loose = Plan(E2, waits=(("v", "w", 1),))
        self.assertEqual([cost(loose, "h", "h"), cost(loose, "h", "x")], [None, 1])

    def test_verdicts(self):
        both = ((1, (("r", 0), ("p", 0))), (1, (("s", 0),)))
        plan = Plan(E1, waits=P1.waits, sharing=both)
        self.assertEqual(list(faults(plan)), [("clash", "p", "r", 0)])
        self.assertEqual(verdict(plan), (
            "wrong", (("a", 0, False), ("b", 0, False), ("c", 0, False), ("d", 0, False)),
        ))
        self.assertEqual(verdict(Plan(E1, waits=(("f", "c", 0), ("a", "f", 1)))), ("wrong", (("d", 0, False),)))
        word, ring = verdict(Plan(E1, waits=(("d", "a", 0), ("a", "d", 0))))
        self.assertEqual([word, sorted(ring)], ["still", [("a", "d", 0), ("d", "a", 0)]])
        self.assertEqual(told(check_verdict, plan, ("wrong", (("a", 0, False), ("c", 0, False)))), ("step", 1))
        self.assertEqual(told(check_verdict, plan, ("wrong", (("a", 0, False), ("b", 0, False)))), ("found", 2))

    def test_slots(self):
        loose = Plan(E2, waits=(("v", "w", 1),))
        self.assertEqual([fewest_slots(P2)[:2], fewest_slots(loose)], [("slots", 2), ("endless", "h", "v", ("w",))])
        web = Web(("w", 0, (("keep", "h"),)), ("v", 1, (("read", "h", 1),)))
        self.assertEqual([fewest_slots(Plan(web, waits=(("v", "w", 1), ("w", "v", 1)))),
                          fewest_slots(Plan(web, waits=(("v", "w", 1), ("w", "v", 0))))[:2]],
                         [("kept", "h", "v"), ("slots", 1)])

    def test_slotcheck(self):
        self.assertIs(check_slots(P2, ("slots", 2, G2, (("h", 0, 1), ("x", 1, 0)))), True)
        self.assertEqual(told(check_slots, P2, ("endless", "h", "v", ("w",))), ("jobs", -1))
        self.assertEqual(told(check_slots, P2, ("slots", 2, G2, (("h", 0, 1), ("x", 0, -1)))), ("crowd", 1))

    def test_waiting(self):
        self.assertEqual([follows(P1, ("e", "a", 0)), follows(P1, ("f", "c", 0))],
                         [(("a", "d", 0), ("d", "e", 0)), None])
        self.assertEqual(least_waits(P1.with_wait(("e", "a", 0))), P1.waits)
        self.assertEqual([needed_waits(E1), needed_waits(E2)], [(("d", "a", 0), ("f", "c", 0)), (("v", "w", 1),)])
        self.assertEqual(planned(E2).sharing, ((3, (("h", 0), ("x", 2))),))
        self.assertEqual([wait for slots, wait in savings(P1)], [
            ("b", "d", 0), ("b", "e", 0), ("c", "d", 0), ("c", "e", 0), ("d", "b", 0), ("d", "c", 0), ("e", "b", 0),
            ("e", "c", 0),
        ])

    def test_states(self):
        wishes = {("w", "h"): "target", ("v", "h"): "sample", ("t", "x"): "target", ("y", "x"): "sample"}
        self.assertEqual(state_row(P2, "h", wishes), ("target", "sample"))
        found = fewest_changes(P2, wishes)
        self.assertEqual(found, ("changes", 2, 4, ((2, (("h", 0), ("x", 1))),), (("h", 0, 0, 0, 1), ("x", 0, 0, 0, 1))))
        self.assertEqual(fewest_changes(P2, {})[2], 0)
        self.assertEqual(caught(state_row, P1, "r", {("b", "r"): "sample", ("d", "r"): "copy"}),
                         ("Unsettled", "r", "b", "d"))
        thing = ("changes", 2, 4, ((2, (("h", 0), ("x", 1))),), (("h", 0, 0, 0, 1), ("x", 0, 0, 0, 2)))
        self.assertEqual(told(check_changes, P2, wishes, thing), ("price", 1))
        self.assertIs(check_changes(P2, wishes, found), True)

    def test_speeds(self):
        self.assertEqual((least_period(P1, {})[:2], least_period(P1, {"e": 5})[:2]), ((4, 1), (8, 1)))
        ring = (("a", "b", 0), ("b", "c", 0), ("c", "f", 0), ("f", "a", -1))
        self.assertIs(check_period(P1, {}, (4, 1, ring, (0, 1, 2, 1, 2, 3))), True)
        self.assertEqual(list(first_starts(P1, {}, frames=2))[:7], [
            ("a", 0, 0), ("b", 0, 1), ("c", 0, 2), ("d", 0, 1), ("e", 0, 2), ("f", 0, 3), ("a", 1, 4),
        ])
        web = Web(("a", 0, ()), ("b", 1, ()), ("c", 2, ()))
        plan = Plan(web, waits=(("b", "a", 0), ("c", "b", 0), ("a", "c", 2)))
        self.assertEqual(least_period(plan, {"b": 2, "c": 2})[:2], (5, 2))

    def test_texts(self):
        text = (
            "job w 0 make:h\njob v 1 read:h:1\njob t 1 make:x\njob y 1 read:x:0\nwait v w 1\nwait w y 1\n"
            "group 2 h:0 x:1"
        )
        self.assertEqual(show_plan(P2), text)
        self.assertEqual(Plan.read(text), P2)
        self.assertEqual(Web.read("job job 0 make:make\njob b 0 read:make:0\nsize make 2").size("make"), 2)
        for text, line, word in (
            ("job a 0 make:r\njob b 0 read:r", 1, 3), ("job a 0 make:r \njob b 0 read:r:0", 0, 4), ("-", 0, 0),
            ("job a 0 make:r\njob b 0 read:r:0\n", 2, 0), ("job a 0 make:r\njob b 0 read:r:0\nsize r 2 3", 2, 3),
        ):
            for read in (Web.read, Plan.read, read_web, read_plan):
                with self.assertRaises(InvalidText) as error:
                    read(text)
                self.assertEqual((error.exception.line, error.exception.word), (line, word))

    def test_joining(self):
        both = side_by_side(P1, P2)
        self.assertEqual([both.web.queues, cost(both, "r", "h"), cost(both, "h", "x"), fewest_slots(both)[1]],
                         [(0, 1, 2, 3), None, 1, 5])
        two = twice(P2)
        self.assertEqual([two.waits, lead(two, "wa", "vb"), lead(two, "wb", "va"), fewest_slots(two)[1]],
                         [(("va", "wb", 1), ("vb", "wa", 0), ("wa", "yb", 1), ("wb", "ya", 0)), 0, -1, 2])
        cut = cut_queue(P1, 0, 2, 2)
        self.assertEqual([cut.rows, cut.waits == tuple(sorted(P1.waits + (("c", "b", 0), ("a", "c", 1)))),
                          lead(cut, "a", "c")],
                         [{0: ("a", "b"), 1: ("d", "e", "f"), 2: ("c",)}, True, 0])
        self.assertEqual(renamed(renamed(P2, {"w": "t", "t": "w"}), {"w": "t", "t": "w"}), P2)

    def test_boards(self):
        board = Board(P1)
        found = [board.status, board.drop_wait(("d", "a", 0)), board.undo(), board.add_wait(("a", "b", 0)),
                 board.slots, board.undo()]
        self.assertEqual(found, ["right", "wrong", "right", "still", None, "right"])
        told = (board.slots[1], board.on_trial(lambda it: (it.add_wait(("c", "d", 0)), it.slots[1])), board.slots[1],
                board.edits, board.undone)
        self.assertEqual(told, (3, ("right", 2), 3, 0, 1))

    def test_tables(self):
        self.assertEqual(cost_grid(P2), "                h        x\nh               2        1\nx               1        1")
        self.assertEqual(lead_grid(P2).split("\n")[2], "v              -1       -1        0        0")

    def test_desk(self):
        desk = Desk()
        text = "plan job w 0 make:h / job v 1 read:h:1 / job t 1 make:x / job y 1 read:x:0 / wait v w 1 / wait w y 1"
        self.assertEqual([desk.say(text), desk.say("slots")], ["ok", "2"])
        self.assertEqual([desk.say("verdict"), desk.say("share 2 h:0 x:1"), desk.say("verdict"),
                          desk.say("place h 7"), desk.say("cost h h")],
                         ["wrong", "ok", "right", "0 1", "2"])
        self.assertEqual([desk.say("undo"), desk.say("lead w v"), desk.say("unmet"), desk.say("period v:3")],
                         ["ok", "-1", "none", "5/1"])
        self.assertEqual([caught(desk.say, "lead w"), caught(desk.say, "lead w v ")],
                         [("InvalidCommand", 2), ("InvalidCommand", 3)])


if __name__ == "__main__":
    unittest.main()
