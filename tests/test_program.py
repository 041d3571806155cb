"""What the document promises over the whole program."""

import importlib
import inspect
import unittest

from everframe import errors
from everframe.boards import Board
from everframe.changecheck import check_changes
from everframe.costs import clashes, cost_table
from everframe.desk import Desk
from everframe.errors import Standstill
from everframe.flowcheck import check_flow
from everframe.flows import flow
from everframe.joining import cut_queue, renamed, side_by_side, twice
from everframe.leadcheck import check_leads
from everframe.leading import lead_table, unmet
from everframe.needs import needs
from everframe.paces import Ahead, Behind, Pace, beginning
from everframe.plain import plain_finds
from everframe.plans import Plan
from everframe.reader import read_plan, read_web
from everframe.runs import Run
from everframe.sharings import is_sharing, slot_of
from everframe.slotcheck import check_slots
from everframe.slots import fewest_slots
from everframe.speeds import check_period, first_starts, least_period
from everframe.states import fewest_changes, state_row
from everframe.tables import cost_grid, lead_grid, slot_grid
from everframe.verdictcheck import check_verdict
from everframe.verdicts import faults, verdict
from everframe.waiting import follows, least_waits, needed_waits, planned, savings
from tests import oracles
from tests.samples import E1, E2, P1, P2, caught, random_plan, random_web, rng_of

# Each function of the interface, and each method of its classes, with its parameters.
FUNCTIONS = {
    "leads": ["along(*leads)", "best(*leads)"],
    "plain": ["plain_run(web, *, frames, left_out=())", "plain_finds(web, job, frame, *, left_out=())",
              "plain_content(web, buffer, frame, *, left_out=())"],
    "needs": ["needs(web)"],
    "leading": ["lead(plan, of, job)", "way(plan, of, job)", "lead_table(plan)", "unmet(plan)",
                "closed_lot(plan, of, frame, upto)"],
    "leadcheck": ["check_leads(plan, thing)"],
    "flows": ["flow(plan)"],
    "flowcheck": ["check_flow(plan, thing)"],
    "paces": ["beginning(plan, pace, *, steps=100, left_out=())"],
    "sharings": ["is_sharing(web, thing)", "apart(web, counts=None)", "slot_of(plan, buffer, frame)"],
    "costs": ["cost(plan, r, s)", "cost_table(plan)", "clashes(plan)"],
    "verdicts": ["faults(plan)", "verdict(plan)"],
    "verdictcheck": ["check_verdict(plan, thing)"],
    "waiting": ["follows(plan, wait)", "least_waits(plan)", "needed_waits(web, *, rows=None, depth=None)",
                "planned(web, *, rows=None, depth=2)", "savings(plan)"],
    "slots": ["fewest_slots(plan)"],
    "slotcheck": ["check_slots(plan, thing)"],
    "states": ["state_row(plan, buffer, wishes)", "fewest_changes(plan, wishes)"],
    "changecheck": ["check_changes(plan, wishes, thing)"],
    "speeds": ["least_period(plan, lengths)", "check_period(plan, lengths, thing)",
               "first_starts(plan, lengths, *, frames)"],
    "joining": ["side_by_side(plan, *others)", "twice(plan)", "cut_queue(plan, queue, at, new)",
                "renamed(plan, names)"],
    "texts": ["show_web(web)", "show_plan(plan)"],
    "reader": ["read_web(text)", "read_plan(text)"],
    "tables": ["lead_grid(plan)", "cost_grid(plan)", "slot_grid(plan, *, frames=6)"],
}
METHODS = {
    ("leads", "Lead"): ["__init__(value=None)"],
    ("webs", "Web"): ["__init__(*jobs, sizes=None)", "queue_of(job)", "uses(job)", "maker(buffer)", "size(buffer)",
                      "uses_of(buffer)",
                      "writers(buffer)", "can_be_left_out(job)", "read(text)"],
    ("plans", "Plan"): ["__init__(web, *, rows=None, waits=(), depth=None, sharing=None)", "set_rows(value)",
                        "set_waits(value)", "set_depth(value)",
                        "set_sharing(value)", "with_wait(wait)", "without_wait(wait)", "read(text)"],
    ("runs", "Run"): ["__init__(plan)", "frame(job)", "do(job)", "leave_out(job)", "expected(job, *, left_out=False)",
                      "content(buffer, frame)",
                      "twin()", "after(plan, steps)"],
    ("paces", "Behind"): ["__init__(queue)"],
    ("paces", "Ahead"): ["__init__(queue)"],
    ("paces", "Listed"): ["__init__(*names)"],
    ("boards", "Board"): ["__init__(plan)", "snapshot()", "add_wait(wait)", "drop_wait(wait)", "move(job, place)",
                          "set_depth(depth)", "share(sharing)",
                          "undo()", "redo()", "watch(call)", "on_trial(call)", "trial()", "twin()"],
    ("desk", "Desk"): ["__init__()", "say(line)"],
}
PROPERTIES = {
    ("webs", "Web"): "jobs buffers queues sizes",
    ("plans", "Plan"): "web rows waits depth sharing ties",
    ("runs", "Run"): "steps ready wrong",
    ("boards", "Board"): "status verdict slots edits undone",
}
ERRORS = {
    "FrameError": ("ValueError", ""), "InvalidLead": ("FrameError", "value"),
    "InvalidWeb": ("FrameError", "reason job"),
    "InvalidPlan": ("FrameError", "part index"), "InvalidSharing": ("FrameError", "index"),
    "InvalidText": ("FrameError", "line word"),
    "InvalidCommand": ("FrameError", "word"), "InvalidCertificate": ("FrameError", "reason where"),
    "Unsettled": ("FrameError", "buffer one other"),
    "NotShareable": ("FrameError", "buffer user"), "NoJob": ("KeyError", "name"), "NoBuffer": ("KeyError", "name"),
    "Standstill": ("RuntimeError", "ring"),
    "NotReady": ("RuntimeError", "job"), "CannotLeaveOut": ("RuntimeError", "job"), "Busy": ("RuntimeError", ""),
    "TooMany": ("OverflowError", "limit"),
    "NothingToUndo": ("LookupError", ""), "NothingToRedo": ("LookupError", ""),
}


def module(name):
    return importlib.import_module("everframe." + name)


class TestInterface(unittest.TestCase):
    def test_parameters_of_functions(self):
        for name, listed in FUNCTIONS.items():
            for told in listed:
                one = getattr(module(name), told.split("(")[0])
                self.assertEqual(one.__name__ + str(inspect.signature(one)), told)
                self.assertEqual(one.__module__, "everframe." + name)

    def test_parameters_of_methods(self):
        for (name, cls), listed in METHODS.items():
            made = getattr(module(name), cls)
            for told in listed:
                one = made.__dict__[told.split("(")[0]]
                one = one.__func__ if isinstance(one, classmethod) else one
                parameters = list(inspect.signature(one).parameters.values())[1:]
                self.assertEqual(one.__name__ + str(inspect.Signature(parameters)), told)

    def test_properties(self):
        for (name, cls), listed in PROPERTIES.items():
            for told in listed.split():
                one = getattr(module(name), cls).__dict__[told]
                self.assertIsInstance(one, property)
                self.assertEqual(one.fset is not None, cls == "Plan" and told in ("rows", "waits", "depth", "sharing"))

    def test_errors(self):
        listed = {name: value for name, value in vars(errors).items() if isinstance(value, type)}
        self.assertEqual(set(listed), set(ERRORS))
        for name, (base, fields) in ERRORS.items():
            self.assertEqual([one.__name__ for one in listed[name].__bases__], [base])
            values = [object() for _ in fields.split()]
            by_place = listed[name](*values)
            by_name = listed[name](**dict(zip(fields.split(), values)))
            for error in (by_place, by_name):
                self.assertEqual([vars(error)[field] for field in fields.split()], values)
                self.assertEqual(len(vars(error)), len(values))


class TestAgreement(unittest.TestCase):
    def check(self, rng, plan):
        """That all that is told of a plan agrees."""
        before = (plan.twin(), str(plan))
        desk, board = Desk(), Board(plan)
        self.assertEqual(desk.say(f"plan {plan}"), "ok")
        word, shown = verdict(plan)
        self.assertIs(check_verdict(plan, (word, shown)), True)
        self.assertEqual([board.status, board.verdict, desk.say("verdict").split(" ")[0]], [word, (word, shown), word])
        self.assertIs(check_flow(plan, flow(plan)), True)
        self.assertEqual(flow(plan)[0], "ring" if word == "still" else "timetable")
        if word == "still":
            self.refuse_standstill(plan)
        else:
            self.check_lively(rng, plan, word, desk, board)
        self.assertEqual((plan, str(plan)), before)
        return word

    def refuse_standstill(self, plan):
        calls = (
            lead_table, unmet, cost_table, lambda one: list(clashes(one)), lambda one: list(faults(one)),
            fewest_slots, lambda one: check_slots(one, None),
            least_waits, lambda one: follows(one, None), lambda one: list(savings(one)),
            lambda one: fewest_changes(one, {}),
            lambda one: check_changes(one, {}, None), lambda one: least_period(one, {}),
            lambda one: list(first_starts(one, {}, frames=1)),
            lead_grid, cost_grid, slot_grid,
        )
        for call in calls:
            with self.assertRaises(Standstill) as error:
                call(plan)
            self.assertTrue(oracles.is_ring(plan, error.exception.ring))
        self.assertIs(check_period(plan, {}, None), False)

    def check_lively(self, rng, plan, word, desk, board):
        self.assertIs(check_leads(plan, lead_table(plan)), True)
        told = fewest_slots(plan)
        self.assertIs(check_slots(plan, told), True)
        self.assertEqual(board.slots, told)
        self.assertEqual(word == "right", list(faults(plan)) == [])
        self.assertEqual(desk.say("unmet") == "none", unmet(plan) == ())
        self.assertEqual(int(desk.say("clashes")), len(list(clashes(plan))))
        found = least_period(plan, {})
        self.assertIs(check_period(plan, {}, found), True)
        self.assertEqual(desk.say("period"), "{}/{}".format(*found[:2]))
        left = Plan(plan.web, rows=plan.rows, waits=least_waits(plan), depth=plan.depth, sharing=plan.sharing)
        self.assertEqual([lead_grid(left), cost_grid(left), verdict(left)[0]], [lead_grid(plan), cost_grid(plan), word])
        if told[0] == "slots":
            changed = fewest_changes(plan, {})
            self.assertIs(check_changes(plan, {}, changed), True)
            self.assertTrue(is_sharing(plan.web, changed[3]))
            self.assertEqual(changed[1:3], (told[1], 0))
        if word == "right":
            for pace in (Pace(), Behind(0), Ahead(3)):
                self.check_run(rng, plan, pace)

    def check_run(self, rng, plan, pace):
        """That a run of a right plan finds what the plain run finds."""
        web = plan.web
        gone = [(job, frame) for job in web.jobs for frame in range(9) if web.can_be_left_out(job) and rng.random() < 0.3]
        steps = list(beginning(plan, pace, steps=40, left_out=gone))
        done = [(job, frame) for job, frame, left_out, _ in steps if left_out]
        for job, frame, _, finds in steps:
            self.assertEqual(finds, plain_finds(web, job, frame, left_out=done))
        self.assertEqual(Run.after(plan, [step[:3] for step in steps]).wrong, ())

    def test_random_plans(self):
        rng = rng_of(351)
        words = [self.check(rng, random_plan(rng)) for _ in range(150)]
        self.assertTrue(min(words.count("still"), words.count("wrong")) > 20)

    def test_planned_webs(self):
        rng = rng_of(352)
        rights = 0
        while rights < 40:
            web = read_web(str(random_web(rng)))
            depth = rng.randint(1, 4)
            if caught(planned, web, depth=depth):
                continue
            rights += 1
            plan = planned(web, depth=depth)
            self.assertEqual(read_plan(str(plan)), plan)
            self.assertEqual(self.check(rng, plan), "right")
            self.assertEqual([plan.waits, unmet(plan)], [needed_waits(web, depth=depth), ()])
            self.assertEqual(needs(web), oracles.needs(web))
            for buffer in web.buffers:
                self.assertEqual(state_row(plan, buffer, {}), ("common",))
                self.assertEqual(oracles.home(plan, buffer, 77), slot_of(plan, buffer, 77))

    def test_plans_that_are_made_from_others(self):
        rng = rng_of(353)
        tried = 0
        while tried < 25:
            web = random_web(rng, jobs=3, buffers=2, optional=False)
            if len(web.queues) > 2 or caught(planned, web):
                continue
            tried += 1
            plan = planned(web)
            made = [renamed(plan, {name: "q" + name for name in (*web.jobs, *web.buffers)})]
            free = [queue for queue in range(4) if queue not in web.queues]
            made += [cut_queue(plan, queue, 1, free[0]) for queue in web.queues if len(plan.rows[queue]) > 1]
            for one in made:
                self.assertEqual(self.check(rng, one), "right")
                self.assertEqual([fewest_slots(one)[1], least_period(one, {})[:2]],
                                 [fewest_slots(plan)[1], least_period(plan, {})[:2]])
            double = twice(plan)
            top, bottom = least_period(double, {})[:2]
            self.assertEqual([fewest_slots(double)[1], unmet(double)], [fewest_slots(plan)[1], ()])
            # a frame of the new plan has two frames of the old one
            self.assertEqual(top * least_period(plan, {})[1], 2 * bottom * least_period(plan, {})[0])
            double.sharing = fewest_slots(double)[2]
            self.assertEqual(self.check(rng, double), "right")
            alone = Plan(web, rows=plan.rows, waits=plan.waits, sharing=plan.sharing)
            small = Plan(E2)
            if web.queues[-1] <= 1 and not set(web.jobs + web.buffers) & set(E2.jobs + E2.buffers):
                both = side_by_side(alone, small)
                self.assertEqual(sorted(unmet(both)), sorted(unmet(alone) + unmet(small)))

    def test_the_same_call_returns_the_same(self):
        rng = rng_of(354)
        for _ in range(30):
            plan = random_plan(rng)
            again = read_plan(str(plan))
            for call in (flow, verdict, lambda one: Board(one).slots, lambda one: Desk().say(f"plan {one}"), str):
                self.assertEqual(call(plan), call(plan))
                self.assertEqual(call(plan), call(again))


class TestNothingIsChanged(unittest.TestCase):
    def test_returned_dicts_belong_to_the_caller(self):
        plan = P1.twin()
        plan.rows[0] = ("c",)
        plan.rows.clear()
        plan.web.sizes.clear()
        self.assertEqual([plan, plan.web.sizes], [P1, {"p": 1, "r": 1, "s": 1}])
        self.assertEqual(E1.sizes, {"p": 1, "r": 1, "s": 1})

    def test_arguments_are_not_modified(self):
        lengths, wishes, rows, names = {"w": 3}, {("w", "h"): "one"}, {1: ["v", "t", "y"]}, {"w": "q"}
        least_period(P2, lengths)
        list(first_starts(P2, lengths, frames=2))
        fewest_changes(P2, wishes)
        planned(E2, rows=rows)
        renamed(P2, names)
        self.assertEqual([lengths, wishes, rows, names], [{"w": 3}, {("w", "h"): "one"}, {1: ["v", "t", "y"]},
                                                          {"w": "q"}])


if __name__ == "__main__":
    unittest.main()
