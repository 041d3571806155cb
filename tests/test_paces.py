import unittest

from everframe.errors import CannotLeaveOut, NoJob, NotReady
from everframe.paces import Ahead, Behind, Listed, Pace, beginning
from everframe.plans import Plan
from everframe.runs import Run
from everframe.webs import Web
from tests.samples import E1, E2, ODD, P1, P2, bare, caught, random_plan, rng_of

FOUR = Plan(Web(bare("a", 3), bare("b", 1), bare("c", 0), bare("d", 1), bare("e", 2)))
STILL = Plan(E1, waits=(("a", "b", 0), ("d", "e", 0)))
OPTIONAL = Web(
    ("k", 0, (("keep", "h"),)),
    ("c", 1, (("carry", "g"),)),
    ("z", 2, (("read", "h", 0), ("read", "g", 1))),
)
OPEN = Plan(OPTIONAL, depth=1)


def steps_of(plan, pace, **named):
    """The jobs and frames of a beginning, as words."""
    return [job + str(frame) for job, frame, _, _ in beginning(plan, pace, **named)]


class TestPaces(unittest.TestCase):
    def test_classes(self):
        for pace in (Behind(0), Ahead(0), Listed("a")):
            self.assertIsInstance(pace, Pace)
        self.assertNotIsInstance(Behind(0), Ahead)
        self.assertNotIsInstance(Ahead(0), Behind)

    def test_several_ready(self):
        run = Run(FOUR)
        self.assertEqual(run.ready, ("a", "b", "c", "e"))
        self.assertEqual(Pace()(run), "a")
        self.assertEqual([Behind(queue)(run) for queue in range(4)], ["a", "a", "a", "b"])
        self.assertEqual([Ahead(queue=queue)(run) for queue in range(4)], ["c", "b", "e", "a"])
        run.do("b")
        self.assertEqual([Ahead(1)(run), Behind(queue=3)(run)], ["d", "c"])
        self.assertEqual(len(run), 1)

    def test_one_ready(self):
        run = Run(P1)
        self.assertEqual(run.ready, ("a",))
        for pace in (Pace(), Behind(0), Behind(1), Ahead(0), Ahead(1), Ahead(3), Listed(), Listed("a", "b")):
            self.assertEqual(pace(run), "a")
        run.do("a")
        self.assertEqual([Behind(0)(run), Behind(1)(run), Ahead(0)(run), Ahead(1)(run)], ["d", "b", "b", "d"])
        # a queue without jobs
        self.assertEqual([Behind(3)(run), Ahead(3)(run)], ["b", "b"])

    def test_none_ready(self):
        run = Run(STILL)
        for pace in (Pace(), Behind(0), Behind(2), Ahead(1), Ahead(2), Listed()):
            self.assertIsNone(pace(run))
            self.assertEqual(list(beginning(STILL, pace)), [])
        self.assertEqual(caught(Listed("a"), run), ("NotReady", "a"))
        self.assertEqual(caught(Listed("zz"), run), ("NoJob", "zz"))

    def test_a_pace_goes_with_several_runs(self):
        pace = Behind(0)
        run, other = Run(P1), Run(P1)
        run.do("a")
        self.assertEqual([pace(run), pace(other), pace(run)], ["d", "a", "d"])


class TestListed(unittest.TestCase):
    def test_names(self):
        pace = Listed("c", "a", "b", "d")
        run = Run(FOUR)
        for name in ("c", "a", "b", "d"):
            self.assertEqual(pace(run), name)
            self.assertEqual(pace(run), name)
            run.do(name)
        # no such name any more
        self.assertEqual([pace(run), Listed()(run), Listed("a", "b")(run)], ["a", "a", "a"])

    def test_names_of_any_kind(self):
        run = Run(P1)
        for value in (*ODD, "zz", "r", run, P1):
            with self.assertRaises(NoJob) as error:
                Listed(value, "a")(run)
            self.assertIs(error.exception.name, value)
            # it is not looked at as long as its turn has not come
            self.assertEqual(Listed("a", value)(run), "a")
            told = []
            with self.assertRaises(NoJob) as error:
                told.extend(beginning(P1, Listed("a", value)))
            self.assertIs(error.exception.name, value)
        self.assertEqual(len(run), 0)

    def test_not_ready(self):
        self.assertRaises(NotReady, Listed("b"), Run(P1))
        for name in "bcdef":
            self.assertEqual(caught(Listed(name), Run(P1)), ("NotReady", name))
        told = beginning(P1, Listed("a", "b", "e"))
        self.assertEqual([next(told)[0], next(told)[0]], ["a", "b"])
        with self.assertRaises(NotReady) as error:
            next(told)
        self.assertEqual(error.exception.job, "e")

    def test_fewer_names_than_steps(self):
        self.assertEqual(steps_of(P1, Listed("a", "d", "e"), steps=7), ["a0", "d0", "e0", "b0", "c0", "f0", "a1"])
        self.assertEqual(steps_of(P1, Listed("a", "d", "e"), steps=2), ["a0", "d0"])


class TestBeginning(unittest.TestCase):
    def test_examples(self):
        self.assertEqual(steps_of(P1, Ahead(0), steps=5), ["a0", "b0", "c0", "d0", "e0"])
        self.assertEqual(steps_of(P1, Behind(0), steps=5), ["a0", "d0", "e0", "b0", "c0"])
        found = (("r", 0, ("a", 0, "r")),)
        self.assertEqual([step[3] for step in beginning(P1, Listed("a", "b", "d"), steps=3)], [(), found, found])
        self.assertEqual(caught(lambda: list(beginning(P1, Pace(), left_out=(("b", 0),)))), ("CannotLeaveOut", "b"))

    def test_number_of_steps(self):
        self.assertEqual(list(beginning(P1, Pace(), steps=0)), [])
        self.assertEqual(list(beginning(plan=P1, pace=Pace(), steps=1)), [("a", 0, False, ())])
        self.assertEqual(len(list(beginning(P1, Pace()))), 100)
        told = list(beginning(P2, Behind(0), steps=4000))
        self.assertEqual(len(told), 4000)
        self.assertEqual(Run.after(P2, [step[:3] for step in told]).wrong, ())

    def test_steps_are_those_of_a_run(self):
        rng = rng_of(61)
        for _ in range(60):
            plan = random_plan(rng)
            pace = rng.choice((Pace(), Behind(rng.randrange(4)), Ahead(rng.randrange(4))))
            optional = [job for job in plan.web.jobs if plan.web.can_be_left_out(job)]
            pairs = [(job, frame) for job in optional for frame in range(9) if rng.random() < 0.5]
            run = Run(plan)
            for job, frame, gone, finds in beginning(plan, pace, steps=40, left_out=pairs):
                self.assertEqual([job, frame, gone], [pace(run), run.frame(job), (job, frame) in pairs])
                self.assertIs(gone.__class__, bool)
                self.assertEqual(run.leave_out(job) if gone else run.do(job), finds)
            self.assertTrue(len(run) == 40 or not run.ready)

    def test_left_out(self):
        expected = [
            ("k", 0, False, ()), ("c", 0, True, ()), ("z", 0, False, (("h", 0, ("k", 0, "h")),)),
            ("k", 1, True, ()), ("c", 1, True, (("g", 0, None),)),
            ("z", 1, False, (("h", 1, ("k", 0, "h")), ("g", 0, None))),
            ("k", 2, True, ()), ("c", 2, False, ()),
        ]
        pairs = [("k", 2), ("c", 1), ("k", 1), ("c", 0)]
        for left_out in (pairs, tuple(pairs[::-1]), pairs * 2, [*pairs, ("c", 3), ("k", 10 ** 30)]):
            self.assertEqual(list(beginning(OPEN, Pace(), steps=8, left_out=left_out)), expected)
        # what is no frame means nothing
        odd = [("k", value) for value in (True, False, None, "0", [0], (0,), -1, {}, 10 ** 39, -(10 ** 39))]
        self.assertEqual(list(beginning(OPEN, Pace(), steps=8, left_out=[*odd, *pairs])), expected)
        self.assertEqual(pairs, [("k", 2), ("c", 1), ("k", 1), ("c", 0)])

    def test_errors_in_their_order(self):
        for steps in (0, 1, 100):
            for pairs, error in (
                ([("k", 0), ("z", 0), ("q", 0), ("y", 0)], ("NoJob", "q")),
                ([("z", 0), (None, 0)], ("NoJob", None)), ([(["k"], 0), (True, 0)], ("NoJob", ["k"])),
                ((("h", 10 ** 30),), ("NoJob", "h")),
                ([("k", 0), ("z", 5), ("z", 6)], ("CannotLeaveOut", "z")),
                ((("z", None),), ("CannotLeaveOut", "z")),
            ):
                for pace in (Pace(), Listed("q"), lambda run: None):
                    told = beginning(OPEN, pace, steps=steps, left_out=pairs)
                    self.assertEqual(caught(lambda: next(told)), error)
        for value in (*ODD, OPEN):
            with self.assertRaises(NoJob) as error:
                list(beginning(OPEN, Pace(), steps=0, left_out=[("z", 0), (value, 0)]))
            self.assertIs(error.exception.name, value)
        self.assertRaises(CannotLeaveOut, list, beginning(OPEN, Pace(), left_out=[("z", 0)]))

    def test_several_at_once(self):
        one = beginning(P1, Behind(0), steps=6)
        other = beginning(P1, Ahead(0), steps=6)
        rows = list(zip(one, other))
        self.assertEqual([row[0] for row in rows], list(beginning(P1, Behind(0), steps=6)))
        self.assertEqual([row[1] for row in rows], list(beginning(P1, Ahead(0), steps=6)))

    def test_changes_of_the_plan(self):
        plan = Plan(E2, waits=P2.waits)
        told = beginning(plan, Pace(), steps=6)
        first = next(told)
        plan.waits = (("w", "y", 0),)
        plan.rows = {1: ("y", "t", "v")}
        self.assertEqual([first, *told], list(beginning(Plan(E2, waits=P2.waits), Pace(), steps=6)))


class TestOwnPaces(unittest.TestCase):
    def test_functions(self):
        self.assertEqual(steps_of(FOUR, lambda run: run.ready[-1], steps=3), ["e0", "e1", "e2"])
        # the one that is behind the most
        behind = lambda run: min(run.ready, key=run.frame)
        self.assertEqual(steps_of(FOUR, behind, steps=6), ["a0", "b0", "c0", "d0", "e0", "a1"])

    def test_how_often_it_is_called(self):
        class Counting:
            def __init__(self, most):
                self.called = []
                self.most = most

            def __call__(self, run):
                self.called.append((len(run), run.steps))
                return run.ready[0] if len(run) < self.most else None

        for steps, most, calls in ((5, 9, 5), (5, 5, 5), (0, 9, 0), (5, 3, 4), (5, 0, 1), (1, 1, 1)):
            pace = Counting(most)
            told = list(beginning(P1, pace, steps=steps))
            self.assertEqual(len(told), min(steps, most))
            self.assertEqual([len(pace.called), [many for many, _ in pace.called]], [calls, list(range(calls))])
            for many, seen in pace.called:
                self.assertEqual(seen, tuple(step[:3] for step in told[:many]))

    def test_it_is_called_with_a_run(self):
        seen = []
        told = beginning(P1, lambda run: seen.append(run) or run.ready[0], steps=2)
        next(told)
        self.assertIsInstance(seen[0], Run)
        list(told)
        self.assertEqual(len(seen), 2)

    def test_what_it_returns(self):
        for value in (*ODD, "zz", "r", P1):
            if value is None:
                continue
            with self.assertRaises(NoJob) as error:
                list(beginning(P1, lambda run: value))
            self.assertIs(error.exception.name, value)
        self.assertEqual(list(beginning(P1, lambda run: None)), [])
        for job in "bcdef":
            self.assertEqual(caught(lambda: list(beginning(P1, lambda run: job))), ("NotReady", job))
        held = Plan(OPTIONAL, waits=(("k", "z", 0),))
        told = beginning(held, lambda run: "k", left_out=[("k", 0)])
        self.assertEqual(caught(lambda: next(told)), ("NotReady", "k"))
        # an own string that equals the name of a job is one
        self.assertEqual(steps_of(P1, lambda run: "".join(["a"]) if len(run) < 1 else None), ["a0"])

    def test_its_own_errors_pass(self):
        def fail(run):
            raise ZeroDivisionError
        self.assertRaises(ZeroDivisionError, list, beginning(P1, fail))


if __name__ == "__main__":
    unittest.main()
