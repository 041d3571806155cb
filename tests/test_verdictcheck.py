import unittest

from everframe.errors import InvalidCertificate
from everframe.flows import flow
from everframe.leadcheck import check_leads
from everframe.leading import lead_table
from everframe.plans import Plan
from everframe.runs import Run
from everframe.verdictcheck import check_verdict
from everframe.verdicts import faults, verdict
from everframe.webs import Web
from tests import oracles
from tests.samples import C, E1, E2, ODD, P1, P2, bare, random_plan, rng_of, told

TIGHT = Plan(E1, waits=P1.waits, sharing=((1, (("r", 0), ("p", 0))), (1, (("s", 0),))))
STILL = Plan(E1, waits=(("d", "a", 0), ("a", "d", 0)))
RING = (("a", "d", 0), ("d", "a", 0))
RUN = (("a", 0, False), ("b", 0, False), ("c", 0, False), ("d", 0, False))
OPTIONAL = Web(("k", 0, (("keep", "h"),)), ("c", 1, (("carry", "g"),)),
               ("z", 2, (("read", "h", 0), ("read", "g", 0))))
OPEN = Plan(OPTIONAL)
# h of three frames, nobody waits for v
LOOSE = Plan(E2, waits=(("v", "w", 1),))


class TestAccepted(unittest.TestCase):
    def test_example(self):
        self.assertEqual(told(check_verdict, TIGHT, ("wrong", (("a", 0, False), ("c", 0, False)))), ("step", 1))
        self.assertEqual(told(check_verdict, TIGHT, ("wrong", (("a", 0, False), ("b", 0, False)))), ("found", 2))
        self.assertIs(check_verdict(TIGHT, ("wrong", RUN)), True)
        with self.assertRaises(InvalidCertificate) as error:
            check_verdict(plan=TIGHT, thing=("wrong", RUN[:2]))
        self.assertEqual((error.exception.reason, error.exception.where), ("found", 2))

    def test_what_verdict_returns(self):
        rng = rng_of(101)
        words = {}
        for _ in range(120):
            plan = random_plan(rng)
            found = verdict(plan)
            words[found[0]] = True
            self.assertIs(check_verdict(plan, found), True)
        for plan in (P1, P2, TIGHT, STILL, LOOSE):
            self.assertIs(check_verdict(plan, verdict(plan)), True)
        self.assertEqual(len(words), 3)

    def test_other_runs(self):
        for steps in (
            (("a", 0, False), ("d", 0, False), ("b", 0, False), ("c", 0, False), ("e", 0, False), ("f", 0, False),
             ("a", 1, False)),
            (("a", 0, False), ("b", 0, False), ("c", 0, False), ("d", 0, False)),
        ):
            self.assertEqual(told(check_verdict, TIGHT, ("wrong", steps)),
                             True if steps[-1][0] == "d" else ("found", 7))
        self.assertIs(check_verdict(OPEN, ("wrong", (("z", 0, False),))), True)
        self.assertIs(check_verdict(OPEN, ("wrong", (("k", 0, True), ("z", 0, False)))), True)
        # both left out: it should find nothing, and so it does
        self.assertEqual(told(check_verdict, OPEN, ("wrong", (("k", 0, True), ("c", 0, True), ("z", 0, False)))),
                         ("found", 3))

    def test_a_verdict_of_another_plan(self):
        for plan, other in ((P1, P2), (P1, STILL), (STILL, P1), (TIGHT, P1), (P1, TIGHT), (STILL, TIGHT), (P1, LOOSE)):
            self.assertNotEqual(told(check_verdict, plan, verdict(other)), True)


class TestShape(unittest.TestCase):
    def test_things_of_any_kind(self):
        table = lead_table(P1)
        for thing in (
            *ODD, ("right",), ("right", table, 1), ("right", list(table)), ["right", table], ("Right", table),
            (None, table), (True, RING), ("ring", RING), ("still", None), ("still", list(RING)), ("still", "ab"),
            ("wrong", list(RUN)), ("wrong", None), ["wrong", RUN], ("wrong", RUN, RUN), ("wrong",), ("wrongs", RUN),
            (["wrong"], RUN), ({}, RUN), ("wrong", {}), ("timetable", (0,), 1), flow(P1), ("right", {"a": 1}),
        ):
            for plan in (P1, STILL, TIGHT):
                self.assertEqual(told(check_verdict, plan, thing), ("shape", -1))

    def test_empty_and_long_runs(self):
        steps = Run(LOOSE)
        for _ in range(4000):
            steps.do("w")
        long = steps.steps
        for plan in (LOOSE, STILL, P1):
            for run in ((), (*long, ("w", 4000, False)), (None,) * 4001):
                self.assertEqual(told(check_verdict, plan, ("wrong", run)), ("shape", -1))
        self.assertEqual(told(check_verdict, LOOSE, ("wrong", long)), ("found", 4000))
        # v finds h of a later frame
        last = (*long[:3999], ("v", 0, False))
        self.assertEqual(told(check_verdict, LOOSE, ("wrong", last)), ("found", 4000))
        self.assertIs(check_verdict(LOOSE, ("wrong", self.late_run(long))), True)

    def late_run(self, long):
        # v and its row in the frame 0 look at nothing; in the frame 1, v finds what the last w wrote
        return (*long[:3996], ("v", 0, False), ("t", 0, False), ("y", 0, False), ("v", 1, False))

    def test_an_empty_ring_or_table(self):
        self.assertEqual(told(check_verdict, STILL, ("still", ())), ("shape", -1))
        self.assertEqual(told(check_verdict, P1, ("right", ())), ("tie", 0))
        for row in (*ODD, lead_table(P1)[0][:4]):
            self.assertEqual(told(check_verdict, P1, ("right", (row,))), ("shape", -1))


class TestStill(unittest.TestCase):
    def test_as_check_flow_tells_it(self):
        for ring, expected in (
            (RING, True), (RING[::-1], True), (RING[:1], ("ring", 0)), ((RING[0], None), ("ring", 1)),
            ((RING[0], ("d", "a", False)), ("ring", 1)), (RING * 2, ("ring", 2)), (RUN, ("ring", 0)),
        ):
            self.assertEqual(told(check_verdict, STILL, ("still", ring)), expected)
        self.assertEqual(told(check_verdict, P1, ("still", RING)), ("ring", 1))


class TestWrong(unittest.TestCase):
    def test_standstill(self):
        for steps in (RUN, ((),), (None,), (("d", 0, False),)):
            self.assertEqual(told(check_verdict, STILL, ("wrong", steps)), ("still", -1))

    def test_entries_of_any_kind(self):
        for at in range(3):
            for entry in (
                *ODD, list(RUN[at]), RUN[at][:2], (*RUN[at], False), ("r", 0, False), ("zz", 0, False),
                (["a"], 0, False), (None, 0, False), (RUN[at][0], False, False), (RUN[at][0], "0", False),
                (RUN[at][0], None, False), (RUN[at][0], [0], False), (RUN[at][0], 0, 0), (RUN[at][0], 0, None),
                (RUN[at][0], 0, ""), (RUN[at][0], 0, []), (RUN[at][0], 10 ** 39, False), (RUN[at][0], -1, False),
                (RUN[at][0], 1, False), (RUN[at][0], 0, True), (RUN[at][0], 0, 1),
            ):
                steps = (*RUN[:at], entry, *RUN[at + 1:])
                self.assertEqual(told(check_verdict, TIGHT, ("wrong", steps)), ("step", at), entry)
                self.assertEqual(told(check_verdict, TIGHT, ("wrong", steps[:at + 1])), ("step", at), entry)
        # True is no frame, though it equals 1
        steps = (("w", 0, False), ("w", True, False))
        self.assertEqual(told(check_verdict, LOOSE, ("wrong", steps)), ("step", 1))

    def test_steps_that_are_not_ready(self):
        for steps, at in (
            ((("b", 0, False),), 0), ((("a", 0, False), ("a", 1, False)), 1), ((*RUN[:3], ("a", 1, False)), 3),
            ((*RUN[:3], ("f", 0, False)), 3), ((*RUN[:2], RUN[1]), 2), ((("d", 0, False), *RUN), 0),
        ):
            self.assertEqual(told(check_verdict, TIGHT, ("wrong", steps)), ("step", at))

    def test_left_out(self):
        self.assertEqual(told(check_verdict, OPEN, ("wrong", (("k", 0, True), ("z", 0, True)))), ("step", 1))
        self.assertEqual(told(check_verdict, OPEN, ("wrong", (("k", 0, True), ("c", 0, 1)))), ("step", 1))
        self.assertEqual(told(check_verdict, OPEN, ("wrong", (("k", 0, True), ("k", 2, True)))), ("step", 1))
        self.assertEqual(told(check_verdict, OPEN, ("wrong", (("k", 0, True), ("k", 1, True)))), ("found", 2))

    def test_an_earlier_wrong_find(self):
        # d finds what c wrote; b and e could come behind it
        self.assertEqual(told(check_verdict, TIGHT, ("wrong", (*RUN, ("e", 0, False)))), ("found", 3))
        self.assertEqual(told(check_verdict, OPEN, ("wrong", (("z", 0, False), ("z", 1, False)))), ("found", 0))
        self.assertEqual(told(check_verdict, OPEN, ("wrong", (("z", 0, False), ("k", 0, False)))), ("found", 0))

    def test_no_wrong_find(self):
        for many in (1, 2, 3):
            self.assertEqual(told(check_verdict, TIGHT, ("wrong", RUN[:many])), ("found", many))
        self.assertEqual(told(check_verdict, P1, ("wrong", RUN)), ("found", 4))

    def test_entry_by_entry(self):
        # the wrong find comes ahead of the entry behind it, and the other way around
        for entry in (None, (), ("a", 0, False), ("zz", 0, False), ("e", True, False)):
            self.assertEqual(told(check_verdict, TIGHT, ("wrong", (*RUN, entry))), ("found", 3))
            self.assertEqual(told(check_verdict, TIGHT, ("wrong", (*RUN[:3], entry, RUN[3]))), ("step", 3))
        self.assertEqual(told(check_verdict, OPEN, ("wrong", (("z", 0, False), ("z", 1, 0), None))), ("found", 0))

    def test_right_plans(self):
        rng = rng_of(102)
        for plan in (P1, P2):
            for _ in range(20):
                run = Run(plan)
                for _ in range(rng.randint(1, 30)):
                    run.do(rng.choice(run.ready))
                self.assertEqual(told(check_verdict, plan, ("wrong", run.steps)), ("found", len(run)))

    def test_against_the_document(self):
        rng = rng_of(103)
        reasons = {}
        for _ in range(300):
            plan = random_plan(rng)
            if oracles.stands_still(plan):
                continue
            run = Run(plan)
            for _ in range(rng.randint(1, 8)):
                job = rng.choice(run.ready)
                run.take(job, run.frame(job), plan.web.can_be_left_out(job) and rng.random() < 0.5)
            steps = list(run.steps)
            if rng.random() < 0.3:
                at = rng.randrange(len(steps))
                job, frame, gone = steps[at]
                steps[at] = rng.choice(((job, frame + 1, gone), (job, frame, not gone),
                                        (rng.choice(plan.web.jobs), 0, gone)))
            expected = self.first_reason(plan, steps)
            self.assertEqual(told(check_verdict, plan, ("wrong", tuple(steps))), expected)
            reasons[expected if expected is True else expected[0]] = True
        self.assertEqual(set(reasons), {True, "step", "found"})

    def first_reason(self, plan, steps):
        for at, (job, frame, gone) in enumerate(steps):
            if oracles.next_frame(steps[:at], job) != frame or not oracles.is_ready(plan, steps[:at], job):
                return ("step", at)
            if gone and not plan.web.can_be_left_out(job):
                return ("step", at)
            _, wrong, _ = oracles.slow_run(plan, steps[:at + 1])
            if wrong:
                return True if at == len(steps) - 1 else ("found", at)
        return ("found", len(steps))


class TestRight(unittest.TestCase):
    def test_as_check_leads_tells_it(self):
        table = lead_table(P1)
        for thing in (
            table, table[::-1], table[:-1], table[1:], (*table[:5], None, *table[6:]),
            (*table[:-1], (*table[-1][:4], ())), (*table[:-1], (*table[-1][:2], True, *table[-1][3:])),
        ):
            self.assertEqual(told(check_verdict, P1, ("right", thing)), told(check_leads, P1, thing))
        self.assertEqual(told(check_verdict, P1, ("right", table[::-1])), ("order", 1))

    def test_standstill(self):
        loose = lead_table(Plan(E1))
        for table in ((), loose):
            self.assertIn(told(check_verdict, STILL, ("right", table))[0], ("tie", "entry", "still"))

    def test_faults(self):
        web = Web(
            ("k", 0, (("keep", "h"),)), ("y", 0, (("read", "h", 0),)), ("m", 0, (("make", "x"),)),
            ("z", 1, (("read", "x", 0),)),
        )
        tied = (("z", "m", 0), ("m", "z", 1), ("k", "z", 1))
        keep = ((2, (("h", 0),)), (1, (("x", 0),)))
        both = ((1, (("h", 0), ("x", 0))),)
        for waits, sharing, expected in (
            (tied, None, True), (tied[1:], None, ("fault", 0)), (tied[1:], keep, ("fault", 0)),
            (tied[2:], both, ("fault", 0)), (tied, keep, ("fault", 1)), (tied, both, ("fault", 1)),
            (tied[:1], None, ("fault", 2)), (tied[:1], keep, ("fault", 1)),
        ):
            plan = Plan(web, waits=waits, sharing=sharing)
            self.assertEqual(told(check_verdict, plan, ("right", lead_table(plan))), expected, list(faults(plan)))
            # an incomplete table goes first
            self.assertEqual(told(check_verdict, plan, ("right", lead_table(plan)[:3]))[0], "tie")
        self.assertEqual(told(check_verdict, TIGHT, ("right", lead_table(TIGHT))), ("fault", 2))
        self.assertEqual(told(check_verdict, Plan(C), ("right", lead_table(Plan(C)))), ("fault", 0))
        self.assertIs(check_verdict(Plan(Web(bare("a", 0))), ("right", (("a", "a", -1, 1, ("a", "a", -1)),))), True)

    def test_what_is_passed_stays(self):
        plan = Plan(E1, waits=P1.waits, sharing=TIGHT.sharing)
        thing = ("wrong", (*RUN[:3], ["d", 0, False]))
        self.assertEqual(told(check_verdict, plan, thing), ("step", 3))
        self.assertEqual([plan, thing], [TIGHT, ("wrong", (*RUN[:3], ["d", 0, False]))])


if __name__ == "__main__":
    unittest.main()
