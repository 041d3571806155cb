import unittest

from everframe.errors import InvalidCertificate
from everframe.flowcheck import check_flow
from everframe.flows import flow
from everframe.plans import Plan
from everframe.webs import Web
from tests import oracles
from tests.samples import E1, E2, ODD, P1, bare, many_jobs, random_plan, rng_of, told

STARTS = (0, 1, 2, 1, 2, 3)
STILL = P1.with_wait(("a", "f", 0))
RING = (("a", "b", 0), ("b", "c", 0), ("c", "f", 0), ("f", "a", 0))
LOOP = Plan(Web(bare("a", 0), bare("b", 1)), waits=(("a", "a", 0),))


class TestAccepted(unittest.TestCase):
    def test_example(self):
        self.assertIs(check_flow(P1, ("timetable", STARTS, 4)), True)
        self.assertEqual(told(check_flow, P1, ("timetable", STARTS, 3)), ("tie", 7))
        self.assertEqual(told(check_flow, P1, ("ring", (("a", "b", 0),))), ("ring", 0))
        with self.assertRaises(InvalidCertificate) as error:
            check_flow(plan=P1, thing=("timetable", STARTS, 3))
        self.assertEqual((error.exception.reason, error.exception.where), ("tie", 7))

    def test_what_flow_returns(self):
        rng = rng_of(41)
        words = []
        for _ in range(200):
            plan = random_plan(rng)
            found = flow(plan)
            self.assertIs(check_flow(plan, found), True)
            words.append(found[0])
        self.assertEqual(set(words), {"timetable", "ring"})
        for count in (1, 16):
            for queues in (1, 2, 3, 4):
                plan = Plan(Web(*many_jobs(count, queues)), depth=1)
                self.assertIs(check_flow(plan, flow(plan)), True)

    def test_other_periods_and_starts(self):
        far = 10 ** 39
        for thing in (
            ("timetable", (0, 1, 2, 1, 2, 3), far), ("timetable", tuple(far + start for start in STARTS), 4),
            ("timetable", (0, 2, 4, 1, 5, 9), 10), ("timetable", (0, far, far + 1, 1, 2, far + 2), far + 3),
        ):
            self.assertIs(check_flow(P1, thing), True)
        self.assertEqual(told(check_flow, P1, ("timetable", (0, far, far + 1, 1, 2, far + 2), far + 2)), ("tie", 7))
        self.assertIs(check_flow(Plan(Web(bare("a", 0))), ("timetable", (0,), 1)), True)
        self.assertIs(check_flow(LOOP.without_wait(("a", "a", 0)), ("timetable", (5, 0), 1)), True)

    def test_rings(self):
        for turn in range(4):
            self.assertIs(check_flow(STILL, ("ring", RING[turn:] + RING[:turn])), True)
        self.assertIs(check_flow(STILL, ("ring", (("a", "d", 0), ("d", "e", 0), ("e", "f", 0), ("f", "a", 0)))), True)
        self.assertIs(check_flow(LOOP, ("ring", (("a", "a", 0),))), True)

    def test_the_plan_may_change(self):
        plan = Plan(E2)
        thing = flow(plan)
        plan.waits = [("v", "y", 0)]
        self.assertEqual(told(check_flow, plan, thing)[0], "tie")
        ring = flow(plan)
        plan.waits = ()
        self.assertEqual(told(check_flow, plan, ring)[0], "ring")


class TestShape(unittest.TestCase):
    def test_things_of_any_kind(self):
        for thing in (
            *ODD, ("timetable",), ("timetable", STARTS), ("timetable", STARTS, 4, 4), ("timetable", list(STARTS), 4),
            ("timetable", None, 4), ["timetable", STARTS, 4], ("ring",), ("ring", ()), ("ring", list(RING)),
            ("ring", RING, 4), ["ring", RING], ("Ring", RING), (None, RING), (True, STARTS, 4), ("ring", "ab"),
            (["ring"], RING), ({}, STARTS, 4), ("timetables", STARTS, 4), ("ring", {"a": 1}), RING, STARTS,
            ("still", RING),
        ):
            for plan in (P1, STILL):
                self.assertEqual(told(check_flow, plan, thing), ("shape", -1))


class TestTimetable(unittest.TestCase):
    def test_starts(self):
        for at in range(6):
            for part in (*ODD, -(10 ** 39), [0], "0"):
                if part.__class__ is int and part >= 0:
                    continue
                starts = (*STARTS[:at], part, *STARTS[at + 1:])
                self.assertEqual(told(check_flow, P1, ("timetable", starts, 4)), ("start", at))
                # ahead of the number of starts, the period and the ties
                self.assertEqual(told(check_flow, P1, ("timetable", starts[:at + 1], None)), ("start", at))
                self.assertEqual(told(check_flow, P1, ("timetable", (*starts, None), 1)), ("start", at))
        self.assertEqual(told(check_flow, P1, ("timetable", (*STARTS, False), 4)), ("start", 6))
        self.assertEqual(told(check_flow, P1, ("timetable", (0, 1, None, -1, True, 3), 4)), ("start", 2))

    def test_number_of_starts(self):
        for starts in ((), STARTS[:5], (*STARTS, 4), (0,), STARTS * 3):
            for period in (4, 0, None, True):
                self.assertEqual(told(check_flow, P1, ("timetable", starts, period)), ("start", 6))
        self.assertEqual(told(check_flow, P1, ("timetable", (*STARTS, -1), 4)), ("start", 6))
        self.assertEqual(told(check_flow, P1, ("timetable", (*STARTS, 1, -1), 4)), ("start", 7))

    def test_period(self):
        for period in (*ODD, 0, -4, -(10 ** 39), (4,), "4"):
            if period.__class__ is not int or period < 1:
                self.assertEqual(told(check_flow, P1, ("timetable", STARTS, period)), ("period", -1))
                self.assertEqual(told(check_flow, P1, ("timetable", (0,) * 6, period)), ("period", -1))
        self.assertIs(check_flow(P1, ("timetable", STARTS, 10 ** 39)), True)

    def test_first_tie(self):
        for starts, period, at in (
            ((0, 0, 2, 1, 2, 3), 4, 0), ((0, 1, 2, 0, 2, 3), 4, 1), ((0, 1, 1, 1, 2, 3), 4, 2),
            ((0, 1, 4, 1, 2, 5), 4, 3), ((0, 1, 2, 1, 2, 2), 4, 4), ((0, 1, 2, 2, 2, 3), 4, 5),
            ((0, 1, 2, 1, 3, 3), 4, 6), ((0, 1, 2, 1, 2, 4), 4, 7), ((5, 6, 7, 6, 7, 8), 3, 7),
            ((0,) * 6, 4, 0), (STARTS, 2, 3), (STARTS, 1, 3), ((10 ** 39, 0, 0, 0, 0, 0), 4, 0),
        ):
            self.assertEqual(told(check_flow, P1, ("timetable", starts, period)), ("tie", at), starts)

    def test_standstill(self):
        for period in (1, 4, 16, 10 ** 39):
            self.assertEqual(told(check_flow, STILL, ("timetable", STARTS, period))[0], "tie")
        self.assertEqual(told(check_flow, LOOP, ("timetable", (0, 0), 9)), ("tie", 0))


class TestRing(unittest.TestCase):
    def test_no_tie(self):
        for at in range(4):
            for part in (
                *ODD, ("f", "a", -1), ("c", "f", False), ("b", "a", 0), ("a", "c", 0), ("a", "b"), ["a", "b", 0],
                (["a"], "b", 0), ("a", "b", 0, 0), ("a", "b", None), ("z", "z", 0), ("d", "a", 0), ("a", "d", 1),
            ):
                ring = (*RING[:at], part, *RING[at + 1:])
                self.assertEqual(told(check_flow, STILL, ("ring", ring)), ("ring", at), part)
        self.assertEqual(told(check_flow, STILL, ("ring", (*RING, None))), ("ring", 4))
        # its ties are of the plan, but not all have the lead 0
        self.assertEqual(told(check_flow, P1, ("ring", (*RING[:3], ("f", "a", -1)))), ("ring", 3))
        self.assertEqual(told(check_flow, P1, ("ring", RING)), ("ring", 3))
        self.assertEqual(told(check_flow, P1, ("ring", (("f", "d", -1), ("d", "e", 0), ("e", "f", 0)))), ("ring", 0))

    def test_ties_that_do_not_meet(self):
        for ring, at in (
            (RING[:3], 0), (RING[1:], 0), ((RING[0], RING[2], RING[1], RING[3]), 1), ((*RING[:2], RING[3]), 2),
            ((RING[0],), 0), ((RING[0], RING[0]), 0), (RING[::-1], 0), ((*RING, RING[0]), 0),
        ):
            self.assertEqual(told(check_flow, STILL, ("ring", ring)), ("ring", at), ring)

    def test_job_twice(self):
        # around twice, and two rings that meet in a
        self.assertEqual(told(check_flow, STILL, ("ring", RING + RING)), ("ring", 4))
        other = (("a", "d", 0), ("d", "e", 0), ("e", "f", 0), ("f", "a", 0))
        self.assertEqual(told(check_flow, STILL, ("ring", RING + other)), ("ring", 4))
        self.assertEqual(told(check_flow, LOOP, ("ring", (("a", "a", 0),) * 2)), ("ring", 1))
        turned = (*other[3:], *RING, *other[:3])
        self.assertEqual(told(check_flow, STILL, ("ring", turned)), ("ring", 4))

    def test_no_tie_goes_ahead_of_the_order(self):
        self.assertEqual(told(check_flow, STILL, ("ring", (RING[2], RING[0], ("f", "a", False)))), ("ring", 2))
        self.assertEqual(told(check_flow, STILL, ("ring", (*RING, RING[0], ["a"]))), ("ring", 5))


class TestAgainstTheDocument(unittest.TestCase):
    def test_changed_things(self):
        rng = rng_of(42)
        reasons = {}
        for _ in range(1500):
            plan = random_plan(rng, waits=rng.choice((0, 2, 4, 8)))
            thing = flow(plan)
            change = self.change_starts if thing[0] == "timetable" else self.change_ring
            thing = change(rng, plan, thing)
            expected = oracles.fault_of_flow(plan, thing)
            self.assertEqual(told(check_flow, plan, thing), True if expected is None else expected)
            reasons[expected and expected[0]] = True
        self.assertEqual(set(reasons), {None, "start", "period", "tie", "ring"})

    def change_starts(self, rng, plan, thing):
        starts = list(thing[1])
        at = rng.randrange(len(starts))
        starts[at] += rng.choice((-1, 0, 1, 2, 50))
        if rng.random() < 0.1:
            starts[at:at + 1] = rng.choice(([], [0, 0], [True], ["0"]))
        return ("timetable", tuple(starts), thing[2] + rng.choice((-20, -1, 0, 0, 1, 5)))

    def change_ring(self, rng, plan, thing):
        ring = list(thing[1])
        ties = [tie for tie in plan.ties if tie[2] == 0 or rng.random() < 0.2]
        at = rng.randrange(len(ring) + 1)
        turned = ring[at:] + ring[:at]
        choice = rng.randrange(4)
        if choice == 1:
            turned.insert(at, rng.choice(ties))
        if choice == 2:
            turned[at - 1] = rng.choice(ties)
        if choice == 3:
            rng.shuffle(turned)
        return ("ring", tuple(turned))


if __name__ == "__main__":
    unittest.main()
