import sys
import unittest

from everframe.errors import CannotLeaveOut, NoBuffer, NoJob, NotReady, TooMany
from everframe.plans import Plan
from everframe.runs import Run
from everframe.webs import Web
from tests import oracles
from tests.samples import C, E1, E2, G2, ODD, P1, P2, U, bare, caught, random_plan, rng_of

TIGHT = Plan(E1, waits=P1.waits, sharing=((1, (("r", 0), ("p", 0))), (1, (("s", 0),))))
# a keep and a carry beside a job that is always done, each read by another queue
OPTIONAL = Web(
    ("k", 0, (("keep", "h"),)),
    ("c", 1, (("carry", "g"),)),
    ("z", 2, (("read", "h", 0), ("read", "g", 0), ("read", "g", 1))),
)
OPEN = Plan(OPTIONAL)
STILL = Plan(E1, waits=(("d", "a", 0), ("a", "d", 0)))


def do_all(run, names):
    """Do the next step of each of these jobs; the finds of the last one."""
    finds = None
    for name in names:
        finds = run.do(name)
    return finds


def told_by(run):
    """All that a run tells."""
    web = run.web
    contents = [run.content(buffer, frame) for buffer in web.buffers for frame in range(6)]
    rights = [run.expected(job) for job in web.jobs]
    return (run.steps, run.ready, run.wrong, len(run), [run.frame(job) for job in web.jobs], contents, rights)


class TestExamples(unittest.TestCase):
    def test_ready_and_finds(self):
        run = Run(P1)
        told = [run.ready, run.do("a"), run.ready, run.do("d"), run.frame("d"), run.ready, run.content("r", 5)]
        self.assertEqual(told, [
            ("a",), (), ("b", "d"), (("r", 0, ("a", 0, "r")),), 1, ("b", "e"), ("a", 0, "r"),
        ])

    def test_wrong_find(self):
        run = Run.after(TIGHT, (("a", 0, False), ("b", 0, False), ("c", 0, False)))
        self.assertEqual([run.expected("d"), run.do("d"), run.wrong], [
            (("r", 0, ("a", 0, "r")),), (("r", 0, ("c", 0, "p")),),
            (("d", 0, ("r", 0, ("c", 0, "p")), ("r", 0, ("a", 0, "r"))),),
        ])
        self.assertEqual(caught(run.do, "b"), ("NotReady", "b"))

    def test_most_steps(self):
        self.assertEqual([Run.MOST_STEPS, Run(P1).MOST_STEPS], [4000, 4000])


class TestReady(unittest.TestCase):
    def test_rows(self):
        plan = Plan(E2, rows={1: ("y", "t", "v")})
        run = Run(plan=plan)
        seen = []
        for job in ("y", "t", "v", "y"):
            seen.append(run.ready)
            run.do(job)
        # in list order, whatever the row
        self.assertEqual(seen, [("w", "y"), ("w", "t"), ("w", "v"), ("w", "y")])
        self.assertEqual([run.frame(job) for job in "wvty"], [0, 1, 1, 2])

    def test_waits_hold_back(self):
        for back in range(5):
            run = Run(Plan(Web(bare("a", 0), bare("b", 1)), waits=(("a", "b", back),)))
            for frame in range(back):
                self.assertEqual(run.ready, ("a", "b"))
                run.do("a")
            for frame in range(3):
                self.assertEqual([run.ready, caught(run.do, "a")], [("b",), ("NotReady", "a")])
                run.do("b")
                self.assertEqual(run.ready, ("a", "b"))
                run.do("a")

    def test_wait_of_a_job_for_itself(self):
        web = Web(bare("a", 0), bare("b", 1))
        self.assertEqual(Run(Plan(web, waits=(("a", "a", 0),))).ready, ("b",))
        for back in (1, 2, 3, 4):
            run = Run(Plan(web, waits=(("a", "a", back),)))
            do_all(run, "aaaaa")
            self.assertEqual(run.ready, ("a", "b"))

    def test_each_depth(self):
        web = Web(bare("a", 0), bare("b", 0), bare("c", 1), bare("d", 1))
        for depth in (1, 2, 3, 4):
            run = Run(Plan(web, depth=depth))
            do_all(run, "ab" * depth)
            self.assertEqual(run.ready, ("c",))
            run.do("c")
            self.assertEqual(run.ready, ("d",))
            run.do("d")
            self.assertEqual(run.ready, ("a", "c"))
            do_all(run, "cd" * (depth - 1))
            self.assertEqual(run.ready, ("a", "c"))
            do_all(run, "cd" * depth)
            self.assertEqual(run.ready, ("a",))

    def test_steps_that_are_left_out_are_over(self):
        run = Run(Plan(C, waits=(("v", "w", 0),)))
        self.assertEqual(run.ready, ("w",))
        run.leave_out("w")
        self.assertEqual(run.ready, ("w", "v"))

    def test_nobody_ready(self):
        run = Run(STILL)
        self.assertEqual([run.ready, caught(run.do, "a"), len(run)], [(), ("NotReady", "a"), 0])
        run = Run(Plan(E2, waits=(("t", "y", 0),)))
        do_all(run, "wwv")
        self.assertEqual(run.ready, ("w",))


class TestSlots(unittest.TestCase):
    def test_frames_in_the_slots_of_a_group(self):
        run = Run(P2)
        self.assertEqual([run.content("h", 0), run.content("x", 10 ** 30)], [None, None])
        do_all(run, "wvty")
        # h of the frame 0 lives in slot 0, x of the frame 0 in slot 1
        self.assertEqual([run.content("h", at) for at in range(3)], [
            ("w", 0, "h"), ("t", 0, "x"), ("w", 0, "h"),
        ])
        self.assertEqual([run.content("x", at) for at in (0, 1, 10 ** 30, 10 ** 30 + 1)], [
            ("t", 0, "x"), ("w", 0, "h"), ("t", 0, "x"), ("w", 0, "h"),
        ])
        do_all(run, "wvt")
        self.assertEqual([run.content("h", 1), run.content("h", 0), run.wrong], [
            ("w", 1, "h"), ("t", 1, "x"), (),
        ])

    def test_what_is_made_is_cleared_before_the_finds(self):
        web = Web(("a", 0, (("make", "r"), ("read", "r", 1), ("make", "s"), ("read", "s", 1))))
        run = Run(Plan(web, sharing=((1, (("r", 0),)), (2, (("s", 0),)))))
        run.do("a")
        self.assertEqual(run.do("a"), (("r", 0, None), ("s", 0, ("a", 0, "s"))))
        self.assertEqual(run.wrong, (("a", 1, ("r", 0, None), ("r", 0, ("a", 0, "r"))),))
        self.assertEqual([run.content("r", 0), run.content("s", 0)], [("a", 1, "r"), ("a", 0, "s")])

    def test_the_last_write_of_a_job_stays(self):
        for uses in ((("make", "r"), ("make", "s")), (("make", "s"), ("make", "r"))):
            web = Web(("a", 0, uses), ("b", 0, (("read", "r", 0), ("read", "s", 0))))
            run = Run(Plan(web, sharing=((1, (("r", 0), ("s", 0))),)))
            run.do("a")
            last = ("a", 0, uses[1][1])
            self.assertEqual(run.do("b"), (("r", 0, last), ("s", 0, last)))
            self.assertEqual([one[2][0] for one in run.wrong], [uses[0][1]])

    def test_updates(self):
        run = Run(Plan(U, waits=(("u", "x", 0),)))
        self.assertEqual(do_all(run, "mxu"), (("b", 0, ("m", 0, "b")),))
        self.assertEqual([run.content("b", 0), run.expected("z")], [("u", 0, "b"), ()])
        # an update does not clear; it finds what is there
        early = Run(Plan(U))
        self.assertEqual([early.do("u"), early.content("b", 0)], [(("b", 0, None),), ("u", 0, "b")])
        self.assertEqual(early.wrong, (("u", 0, ("b", 0, None), ("b", 0, ("m", 0, "b"))),))

    def test_reads_of_each_age(self):
        uses = tuple(("read", "r", age) for age in (2, 0, 3, 1))
        run = Run(Plan(Web(("a", 0, (("make", "r"),)), ("b", 0, uses)), sharing=((4, (("r", 3),)),)))
        for frame in range(6):
            run.do("a")
            ages = [age for age in (2, 0, 3, 1) if age <= frame]
            self.assertEqual(run.do("b"), tuple(("r", frame - age, ("a", frame - age, "r")) for age in ages))
        self.assertEqual(run.wrong, ())
        # with three slots the oldest one is lost
        short = Run(Plan(run.web, sharing=((3, (("r", 0),)),)))
        do_all(short, "abababab")
        self.assertEqual(short.wrong, (("b", 3, ("r", 0, ("a", 3, "r")), ("r", 0, ("a", 0, "r"))),))


class TestLeftOut(unittest.TestCase):
    def test_keep(self):
        run = Run(OPEN)
        self.assertEqual([run.leave_out("k"), run.content("h", 0), run.expected("z")[0]], [(), None, ("h", 0, None)])
        run.do("k")
        self.assertEqual([run.leave_out("k"), run.leave_out("k"), run.content("h", 3)], [(), (), ("k", 1, "h")])
        self.assertEqual(run.steps, (("k", 0, True), ("k", 1, False), ("k", 2, True), ("k", 3, True)))

    def test_keep_with_several_slots(self):
        run = Run(Plan(OPTIONAL, sharing=((2, (("h", 0),)), (1, (("g", 0),)))))
        run.do("c")
        do_all(run, "kz")
        run.leave_out("k")
        run.do("c")
        finds = run.do("z")
        self.assertEqual(finds[0], ("h", 1, None))
        self.assertEqual(run.wrong[0], ("z", 1, ("h", 1, None), ("h", 1, ("k", 0, "h"))))

    def test_carry(self):
        run = Run(Plan(OPTIONAL, sharing=((1, (("h", 0),)), (3, (("g", 0),)))))
        self.assertEqual([run.expected("c", left_out=True), run.leave_out("c"), run.content("g", 0)], [(), (), None])
        run.do("c")
        for frame in (2, 3, 4):
            self.assertEqual(run.expected("c", left_out=True), (("g", frame - 1, ("c", 1, "g")),))
            self.assertEqual(run.leave_out(job="c"), (("g", frame - 1, ("c", 1, "g")),))
            self.assertEqual(run.content("g", frame), ("c", 1, "g"))
        self.assertEqual([run.expected("c"), run.wrong], [(), ()])

    def test_carry_in_one_slot_keeps_what_is_there(self):
        # it is not cleared before, so it finds itself
        run = Run(OPEN)
        run.do("c")
        self.assertEqual([run.leave_out("c"), run.content("g", 1), run.wrong], [
            (("g", 0, ("c", 0, "g")),), ("c", 0, "g"), (),
        ])

    def test_carry_in_frame_zero_clears(self):
        web = Web(
            ("m", 0, (("make", "r"),)), ("c", 1, (("carry", "g"),)),
            ("z", 2, (("read", "r", 0), ("read", "g", 0))),
        )
        run = Run(Plan(web, sharing=((1, (("g", 0), ("r", 0))),)))
        run.do("m")
        run.leave_out("c")
        self.assertEqual([run.content("g", 0), run.do("z")], [None, (("r", 0, None), ("g", 0, None))])
        self.assertEqual(run.wrong, (("z", 0, ("r", 0, None), ("r", 0, ("m", 0, "r"))),))

    def test_wrong_find_of_a_carry(self):
        web = Web(("c", 0, (("carry", "g"),)), ("u", 1, (("update", "g"),)))
        run = Run(Plan(web, sharing=((2, (("g", 0),)),)))
        do_all(run, "c")
        # u of the frame 0 is still to come, which counts as done
        self.assertEqual(run.expected("c", left_out=True), (("g", 0, ("u", 0, "g")),))
        self.assertEqual(run.leave_out("c"), (("g", 0, ("c", 0, "g")),))
        self.assertEqual(run.wrong, (("c", 1, ("g", 0, ("c", 0, "g")), ("g", 0, ("u", 0, "g"))),))
        self.assertEqual(run.content("g", 1), ("c", 0, "g"))

    def test_what_is_left_out_later_does_not_count(self):
        # z looks before the step of k has come, which then is left out
        run = Run(OPEN)
        do_all(run, "kcz")
        self.assertEqual(run.expected("z")[0], ("h", 1, ("k", 1, "h")))
        run.do("z")
        wrong = ("z", 1, ("h", 1, ("k", 0, "h")), ("h", 1, ("k", 1, "h")))
        self.assertEqual(run.wrong[0], wrong)
        run.leave_out("k")
        self.assertEqual(run.wrong[0], wrong)

    def test_many_in_a_row(self):
        run = Run(OPEN)
        run.do("k")
        for _ in range(1999):
            run.leave_out("k")
        for _ in range(1999):
            run.leave_out("c")
        self.assertEqual([run.expected("c"), run.expected("c", left_out=True)], [(), (("g", 1998, None),)])
        self.assertEqual(run.do("z"), (("h", 0, ("k", 0, "h")), ("g", 0, None)))
        self.assertEqual([len(run), run.wrong, run.content("h", 0)], [4000, (), ("k", 0, "h")])


class TestAgainstTheDocument(unittest.TestCase):
    def check(self, rng, plan, many):
        run = Run(plan)
        jobs = plan.web.jobs
        optional = [job for job in jobs if plan.web.can_be_left_out(job)]
        steps, finds = [], []
        share = rng.random()
        for _ in range(many):
            ready = tuple(job for job in jobs if oracles.is_ready(plan, steps, job))
            self.assertEqual(run.ready, ready)
            for job in jobs:
                step = (job, oracles.next_frame(steps, job), False)
                self.assertEqual(run.frame(job), step[1])
                self.assertEqual(run.expected(job), oracles.right_finds(plan, [*steps, step]))
            for job in optional:
                step = (job, run.frame(job), True)
                self.assertEqual(run.expected(job, left_out=True), oracles.right_finds(plan, [*steps, step]))
            if not ready:
                break
            job = rng.choice(ready)
            gone = job in optional and rng.random() < share
            steps.append((job, run.frame(job), gone))
            finds.append(run.leave_out(job) if gone else run.do(job))
        slow, wrong, slots = oracles.slow_run(plan, steps)
        self.assertEqual([run.steps, finds, run.wrong, len(run)], [tuple(steps), slow, tuple(wrong), len(steps)])
        for buffer in plan.web.buffers:
            for frame in range(8):
                self.assertEqual(run.content(buffer, frame), slots.get(oracles.home(plan, buffer, frame)))
        self.assertEqual(Run.after(plan, steps).wrong, run.wrong)
        return len(wrong)

    def test_random_plans(self):
        rng = rng_of(51)
        wrong = [self.check(rng, random_plan(rng), 14) for _ in range(150)]
        self.assertTrue(30 < wrong.count(0) < 140)

    def test_long_runs(self):
        rng = rng_of(52)
        for _ in range(6):
            self.check(rng, random_plan(rng, waits=1), 60)

    def test_twins_go_on_behind_changes_of_the_plan(self):
        rng = rng_of(53)
        for _ in range(60):
            plan = random_plan(rng)
            kept = plan.twin()
            run = Run(plan)
            plan.waits, plan.depth, plan.sharing = (), 1, None
            left, steps = [], []
            for _ in range(12):
                if rng.random() < 0.4:
                    left.append((run, len(steps)))
                    run = run.twin()
                if not run.ready:
                    break
                job = rng.choice(run.ready)
                gone = kept.web.can_be_left_out(job) and rng.random() < 0.5
                steps.append((job, run.frame(job), gone))
                self.assertEqual(run.leave_out(job) if gone else run.do(job), oracles.slow_run(kept, steps)[0][-1])
            for other, many in [*left, (run, len(steps))]:
                self.assertEqual(other.steps, tuple(steps[:many]))
                self.assertEqual(other.wrong, tuple(oracles.slow_run(kept, steps[:many])[1]))
                self.assertEqual(other, Run.after(kept, steps[:many]))


class TestWork(unittest.TestCase):
    """A run of 4,000 steps is to be asked often: each step may take a few calls only."""

    def count(self, call):
        calls = []
        sys.setprofile(lambda frame, event, part: calls.append(event) if event == "call" else None)
        try:
            call()
        finally:
            sys.setprofile(None)
        return len(calls)

    def test_calls_for_each_step(self):
        plan = Plan(Web.read("job a 0\njob b 0 keep:x\njob c 0 read:x:0"))
        run = Run(plan)
        self.assertLess(self.count(lambda: do_all(run, "abc" * 1333)), 9 * 3999)
        self.assertLess(self.count(lambda: Run.after(plan, run.steps)), 9 * 3999)

    def test_calls_for_each_step_that_is_left_out(self):
        run = Run(Plan(C))
        self.assertLess(self.count(lambda: [run.leave_out("w") for _ in range(3999)]), 20 * 3999)
        twin = run.twin()
        self.assertLess(self.count(lambda: twin.do("w")), 20)


class TestErrors(unittest.TestCase):
    def test_values_of_any_kind(self):
        run = Run(P1)
        do_all(run, "ad")
        before = told_by(run)
        for value in (*ODD, "zz", "r", P1, run):
            for call in (run.do, run.leave_out, run.frame, run.expected):
                with self.assertRaises(NoJob) as error:
                    call(value)
                self.assertIs(error.exception.name, value)
            with self.assertRaises(NoJob) as error:
                run.expected(value, left_out=True)
            self.assertIs(error.exception.name, value)
        for value in (*ODD, "zz", "a", P1, run):
            with self.assertRaises(NoBuffer) as error:
                run.content(value, 0)
            self.assertIs(error.exception.name, value)
        self.assertEqual(told_by(run), before)

    def test_jobs_that_cannot_be_left_out(self):
        # ahead of whether they are ready
        run = Run(P1)
        for job in E1.jobs:
            self.assertEqual(caught(run.leave_out, job), ("CannotLeaveOut", job))
            self.assertEqual(caught(lambda: run.expected(job, left_out=True)), ("CannotLeaveOut", job))
        self.assertEqual([len(run), run.ready], [0, ("a",)])
        self.assertRaises(CannotLeaveOut, run.leave_out, "b")

    def test_not_ready(self):
        run = Run(Plan(OPTIONAL, waits=(("k", "z", 0), ("c", "k", 0))))
        before = told_by(run)
        for job in ("k", "c"):
            for call in (run.do, run.leave_out):
                self.assertEqual(caught(call, job), ("NotReady", job))
                self.assertRaises(NotReady, call, job)
        self.assertEqual(told_by(run), before)

    def test_too_many(self):
        run = Run(Plan(OPTIONAL, waits=(("k", "z", 0),)))
        for _ in range(1500):
            do_all(run, "zc")
        for _ in range(999):
            run.leave_out("k")
        self.assertEqual(len(run), 3999)
        self.assertEqual(caught(run.leave_out, "z"), ("CannotLeaveOut", "z"))
        run.do("k")
        before = (run.steps, run.ready, run.wrong, run.content("h", 0), run.content("g", 0))
        self.assertEqual(len(run), 4000)
        self.assertEqual(run.ready, ("k", "c", "z"))
        for call, job in ((run.do, "k"), (run.leave_out, "k"), (run.do, "z"), (run.leave_out, "c")):
            self.assertEqual(caught(call, job), ("TooMany", 4000))
            self.assertRaises(TooMany, call, job)
        # what is listed first goes first
        self.assertEqual(caught(run.leave_out, "z"), ("CannotLeaveOut", "z"))
        self.assertEqual(caught(run.do, "q"), ("NoJob", "q"))
        self.assertEqual((run.steps, run.ready, run.wrong, run.content("h", 0), run.content("g", 0)), before)
        self.assertEqual([run.frame("k"), run.expected("k"), run.expected("k", left_out=True)], [1000, (), ()])
        self.assertEqual(caught(run.twin().do, "k"), ("TooMany", 4000))
        self.assertEqual(caught(Run.after, Plan(OPTIONAL), (*run.steps, ("k", 1000, True))), ("TooMany", 4000))

    def test_not_ready_goes_ahead_of_too_many(self):
        plan = Plan(Web(bare("a", 0), bare("b", 1)), waits=(("b", "a", 0),))
        run = Run(plan)
        do_all(run, "ab" * 2000)
        self.assertEqual(run.ready, ("a",))
        self.assertEqual([caught(run.do, "b"), caught(run.do, "a")], [("NotReady", "b"), ("TooMany", 4000)])
        steps = (*run.steps, ("a", 1999, False))
        self.assertEqual(caught(Run.after, plan, steps), ("NotReady", "a"))
        self.assertEqual(caught(Run.after, plan, (*run.steps, ("a", 2000, False))), ("TooMany", 4000))


class TestApart(unittest.TestCase):
    def test_changes_of_the_plan(self):
        plan = Plan(E1, waits=P1.waits)
        run = Run(plan)
        run.do("a")
        plan.waits = (("b", "f", 0),)
        plan.depth = 1
        plan.rows = {0: ("c", "b", "a")}
        plan.sharing = TIGHT.sharing
        self.assertEqual(run.ready, ("b", "d"))
        do_all(run, "bc")
        self.assertEqual([run.content("r", 0), run.content("p", 0)], [("a", 0, "r"), ("c", 0, "p")])
        self.assertEqual(run, Run.after(P1, run.steps))
        self.assertEqual(run.twin(), Run.after(P1, run.steps))

    def test_the_plan_stays(self):
        plan = Plan(E2, waits=P2.waits, sharing=G2)
        do_all(Run(plan), "wvtywvty")
        self.assertEqual(plan, P2)

    def test_twins(self):
        run = Run(OPEN)
        do_all(run, "kc")
        run.leave_out("k")
        run.do("z")
        run.do("z")
        twin = run.twin()
        self.assertEqual([told_by(twin), twin == run], [told_by(run), True])
        before = told_by(run)
        twin.leave_out("c")
        twin.leave_out("k")
        do_all(twin, "kzc")
        self.assertEqual([told_by(run), twin == run], [before, False])
        later = told_by(twin)
        do_all(run, "kkcccz")
        self.assertEqual(told_by(twin), later)
        self.assertEqual(twin.expected("z")[0], ("h", 3, ("k", 3, "h")))
        self.assertEqual(twin.content("g", 0), ("c", 2, "g"))

    def test_what_is_returned_belongs_to_the_caller(self):
        run = Run(P1)
        run.do("a")
        for told in (run.steps, run.ready, run.wrong, run.do("b"), run.expected("d")):
            self.assertIsInstance(told, tuple)


class TestAfter(unittest.TestCase):
    STEPS = (("k", 0, False), ("c", 0, True), ("z", 0, False), ("k", 1, True))

    def test_tuples_and_lists(self):
        run = Run(OPEN)
        run.do("k")
        run.leave_out("c")
        run.do("z")
        run.leave_out("k")
        for steps in (self.STEPS, list(self.STEPS)):
            self.assertEqual(told_by(Run.after(OPEN, steps)), told_by(run))
        self.assertEqual(Run.after(plan=OPEN, steps=run.steps), run)
        self.assertEqual(Run.after(OPEN, []), Run(OPEN))
        self.assertEqual(Run.after(OPEN, ()).ready, ("k", "c", "z"))

    def test_steps_that_are_not_possible(self):
        for step, error in (
            (("q", 9, True), ("NoJob", "q")), ((None, 0, False), ("NoJob", None)), ((["k"], 0, True), ("NoJob", ["k"])),
            (("z", 1, True), ("CannotLeaveOut", "z")), (("z", 9, True), ("CannotLeaveOut", "z")),
            (("z", 0, False), ("NotReady", "z")), (("z", 2, False), ("NotReady", "z")),
            (("k", 1, True), ("NotReady", "k")), (("k", 3, False), ("NotReady", "k")),
            (("k", -1, False), ("NotReady", "k")), (("c", True, False), ("NotReady", "c")),
        ):
            self.assertEqual(caught(Run.after, OPEN, (*self.STEPS, step, ("qq", 0, False))), error)
        held = Plan(OPTIONAL, waits=(("k", "z", 0),))
        for gone in (True, False):
            self.assertEqual(caught(Run.after, held, (("k", 0, gone),)), ("NotReady", "k"))
        self.assertEqual(len(Run.after(held, (("z", 0, False), ("k", 0, True)))), 2)


class TestForm(unittest.TestCase):
    def test_length_and_repr(self):
        run = Run(P1)
        self.assertEqual([len(run), repr(run)], [0, "Run(0 steps)"])
        run.do("a")
        self.assertEqual([len(run), repr(run)], [1, "Run(1 steps)"])
        run.do("b")
        self.assertEqual([len(run), repr(run)], [2, "Run(2 steps)"])

    def test_equality(self):
        run = Run.after(P1, (("a", 0, False), ("b", 0, False)))
        same = Run.after(Plan(E1, waits=P1.waits[::-1]), [("a", 0, False), ("b", 0, False)])
        self.assertTrue(run == same and not run != same)
        for other in (
            Run(P1), Run.after(P1, (("a", 0, False), ("d", 0, False))),
            Run.after(Plan(E1, waits=P1.waits[1:]), run.steps), Run.after(TIGHT, run.steps),
            Run.after(Plan(E1, waits=P1.waits, depth=4), run.steps), P1, run.steps, 2, None, "Run(2 steps)", *ODD,
        ):
            self.assertTrue(run != other and not run == other)
        # the same steps in another order
        one = Run.after(P1, (("a", 0, False), ("b", 0, False), ("d", 0, False)))
        two = Run.after(P1, (("a", 0, False), ("d", 0, False), ("b", 0, False)))
        self.assertFalse(one == two)
        self.assertFalse(Run.after(OPEN, (("k", 0, True),)) == Run.after(OPEN, (("k", 0, False),)))
        self.assertTrue(Run(STILL) == Run(STILL))


if __name__ == "__main__":
    unittest.main()
