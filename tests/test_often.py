"""What is asked very often, verdicts, faults, fewest slots and boards: by slow versions, and with bounds on the work."""

import sys
import unittest

from everframe.boards import Board
from everframe.errors import NothingToRedo, NothingToUndo, Standstill
from everframe.leading import lead_table
from everframe.needs import needs
from everframe.plans import Plan
from everframe.runs import Run
from everframe.slots import fewest_slots
from everframe.verdicts import faults, verdict
from everframe.waiting import follows, least_waits
from tests import oracles, slowplans
from tests.samples import P1, P2, caught, random_plan, random_sharing, random_web, rng_of

LONG = (
    "job a 0 make:p\njob b 1 read:p:0 make:q\njob c 0 read:q:0 update:p\njob d 1 read:p:1 make:r\n"
    "job e 2 read:r:0 read:q:1 make:s\njob f 2 read:s:0 read:p:2 make:t\njob g 0 read:t:1\nwait b a 0\nwait c b 0\n"
    "wait e b 0\nwait e d 0\nwait d c 1\nwait a f 2\nwait a g 1\ndepth 3"
)
# the same with all needs and the fewest slots, so that it is right
RIGHT = LONG.replace("depth", "wait g f 1\ndepth") + "\ngroup 10 p:0 q:5 r:2 s:7 t:4"


def rows_run(call, *parts):
    """How many rows of the package a call runs."""
    found = []

    def trace(frame, event, _):
        if "everframe" not in frame.f_code.co_filename:
            return None
        if event == "line":
            found.append(frame.f_lineno)
        return trace

    before = sys.gettrace()
    sys.settrace(trace)
    try:
        call(*parts)
    finally:
        sys.settrace(before)
    return len(found)


def likely(rng, web=None):
    """A random plan that is often right, and sometimes stands still."""
    web = web or random_web(rng)
    plan = random_plan(rng, web)
    if rng.random() < 0.7:
        plan.waits = [*plan.waits[:2], *[(after, before, back) for before, after, back in needs(web)]]
    if rng.random() < 0.5:
        plan.sharing = tuple((rng.choice((1, 1, 3, 9)), ((name, 0),)) for name in web.buffers)
    return plan


class TestTheLongInput(unittest.TestCase):
    def test_what_is_told(self):
        plan = Plan.read(LONG)
        self.assertEqual(list(faults(plan)), [
            ("need", "f", "g", 1), ("clash", "p", "p", 1), ("clash", "q", "q", 1), ("clash", "r", "r", 1),
            ("clash", "t", "t", 1),
        ])
        self.assertEqual(slowplans.faults(plan), list(faults(plan)))
        self.assertEqual([verdict(plan)[0], slowplans.is_verdict(plan, verdict(plan))], ["wrong", True])
        self.assertEqual([fewest_slots(plan)[1], slowplans.is_slots(plan, fewest_slots(plan))], [10, True])
        board = Board(plan)
        self.assertEqual([board.verdict, board.slots, board.snapshot()], [verdict(plan), fewest_slots(plan), plan])
        right = Plan.read(RIGHT)
        self.assertEqual([verdict(right), slowplans.status(right)], [("right", lead_table(right)), "right"])

    def test_the_work(self):
        # a version that told the leads anew for each question ran 8185, 12651, 3986, 3074, 5564 and 2742 rows
        for text in (LONG, RIGHT, LONG.replace("depth 3", "wait g f 1\ndepth 3")):
            for call, most in ((verdict, 3000), (Board, 4200), (fewest_slots, 1800), (least_waits, 1200)):
                self.assertLessEqual(rows_run(call, Plan.read(text)), most, (call, text))
            self.assertLessEqual(rows_run(lambda plan: list(faults(plan)), Plan.read(text)), 1500)
            self.assertLessEqual(rows_run(Plan.read, text), 2700)

    def test_asked_again(self):
        plan = Plan.read(LONG)
        verdict(plan)
        for call, most in ((verdict, 700), (fewest_slots, 1200), (least_waits, 600)):
            self.assertLessEqual(rows_run(call, plan), most)
            # a twin, and a plan with another sharing, have the same leads
            self.assertLessEqual(rows_run(call, plan.twin()), most)
        plan.sharing = Plan.read(RIGHT).sharing
        self.assertLessEqual(rows_run(verdict, plan), 700)

    def test_boards(self):
        board = Board(Plan.read(LONG))
        sharing = Plan.read(RIGHT).sharing
        for edit in (
            lambda: board.add_wait(("g", "f", 1)), lambda: board.drop_wait(("a", "f", 2)), lambda: board.move("g", 1),
            lambda: board.set_depth(2), lambda: board.share(sharing),
        ):
            self.assertLessEqual(rows_run(edit), 3500)
        self.assertEqual(board.status, "right")
        # what is come back to has been told before
        for call in (board.undo, board.redo, lambda: (board.status, board.verdict, board.slots)):
            self.assertLessEqual(rows_run(call), 50)


class TestBySlowVersions(unittest.TestCase):
    def check(self, plan):
        """That a plan's faults, verdict and slots are what the points tell; the status."""
        if oracles.stands_still(plan):
            for call in (lambda: list(faults(plan)), lambda: fewest_slots(plan), lambda: least_waits(plan)):
                self.assertRaises(Standstill, call)
        else:
            self.assertEqual(list(faults(plan)), slowplans.faults(plan), str(plan))
            self.assertTrue(slowplans.is_slots(plan, fewest_slots(plan)), str(plan))
            self.assertEqual(least_waits(plan), tuple(wait for wait in plan.waits if follows(plan, wait) is None))
        found = verdict(plan)
        if found[0] == "wrong" and len(found[1]) > 150:
            self.assertEqual(slowplans.status(plan), "wrong")
            self.assertEqual({one[:2] for one in Run.after(plan, found[1]).wrong}, {found[1][-1][:2]})
        else:
            self.assertTrue(slowplans.is_verdict(plan, found), (str(plan), found))
        return found[0]

    def test_random_plans(self):
        rng = rng_of(421)
        words = [self.check(likely(rng)) for _ in range(150)]
        self.assertTrue(min(words.count(word) for word in ("still", "wrong", "right")) > 15)

    def test_many_jobs(self):
        rng = rng_of(422)
        for _ in range(12):
            self.check(likely(rng, random_web(rng, jobs=rng.randint(9, 16), buffers=rng.randint(3, 6))))

    def test_after_changes(self):
        rng = rng_of(423)
        for _ in range(20):
            plan = likely(rng)
            for _ in range(5):
                twin, before = plan.twin(), verdict(plan)
                other = likely(rng, plan.web)
                name = rng.choice(("rows", "waits", "depth", "sharing"))
                setattr(plan, name, getattr(other, name))
                self.check(plan)
                self.assertEqual(verdict(twin), before)
                # a change of the twin does not reach the plan
                told = verdict(plan)
                twin.waits, twin.depth = other.waits, other.depth
                self.assertEqual([verdict(plan), plan], [told, slowplans.same_plan(plan)])
                self.check(twin)

    def test_with_and_without_waits(self):
        rng = rng_of(424)
        for _ in range(25):
            plan = likely(rng)
            before = verdict(plan)
            wait = (rng.choice(plan.web.jobs), rng.choice(plan.web.jobs), rng.randint(0, 4))
            self.check(plan.with_wait(wait))
            if plan.waits:
                self.check(plan.without_wait(rng.choice(plan.waits)))
            self.assertEqual(verdict(plan), before)

    def test_faults_of_a_plan_that_changes_before_they_are_asked_for(self):
        plan = P2.twin()
        found = faults(plan)
        plan.waits = ()
        self.assertEqual(list(found), slowplans.faults(Plan(P2.web, sharing=P2.sharing)))


class TestBoardsBySlowVersions(unittest.TestCase):
    def check(self, board, plan):
        """That a board is at this plan and tells what the points tell of it."""
        fresh = slowplans.same_plan(plan)
        self.assertEqual([board.snapshot(), board.status], [fresh, slowplans.status(fresh)])
        if len(board.verdict[1]) <= 150 or board.status != "wrong":
            self.assertTrue(slowplans.is_verdict(fresh, board.verdict), str(plan))
        if board.status == "still":
            self.assertIsNone(board.slots)
        else:
            self.assertTrue(slowplans.is_slots(fresh, board.slots), str(plan))
        # a snapshot tells the same, whatever becomes of other snapshots
        taken, other = board.snapshot(), board.snapshot()
        other.waits, other.depth = (), 1
        self.assertEqual([verdict(taken), verdict(fresh)], [board.verdict] * 2)

    def edit(self, rng, board, plan):
        """One random edit of a board, and the plan that it makes of this one."""
        web, kind = plan.web, rng.choice(("add", "drop", "move", "depth", "share"))
        parts = {"rows": plan.rows, "waits": plan.waits, "depth": plan.depth, "sharing": plan.sharing}
        if kind == "add" or (kind == "drop" and not plan.waits):
            wait = (rng.choice(web.jobs), rng.choice(web.jobs), rng.randint(0, 4))
            parts["waits"] = (*plan.waits, wait)
            board.add_wait(wait)
        elif kind == "drop":
            wait = rng.choice(plan.waits)
            parts["waits"] = [one for one in plan.waits if one != wait]
            board.drop_wait(wait)
        elif kind == "move":
            job = rng.choice(web.jobs)
            row = [one for one in plan.rows[web.queue_of(job)] if one != job]
            place = rng.randint(0, len(row))
            parts["rows"] = {**plan.rows, web.queue_of(job): [*row[:place], job, *row[place:]]}
            board.move(job, place)
        elif kind == "depth":
            parts["depth"] = rng.choice((None, 1, 2, 3, 4))
            board.set_depth(parts["depth"])
        else:
            parts["sharing"] = random_sharing(rng, web)
            board.share(parts["sharing"])
        return Plan(web, **parts)

    def test_edits_and_back(self):
        rng = rng_of(431)
        for _ in range(8):
            plans = [likely(rng)]
            board = Board(plans[0])
            self.check(board, plans[0])
            for _ in range(6):
                plans.append(self.edit(rng, board, plans[-1]))
                self.check(board, plans[-1])
            for plan in plans[-2::-1]:
                board.undo()
                self.check(board, plan)
            self.assertRaises(NothingToUndo, board.undo)
            for plan in plans[1:]:
                board.redo()
                self.check(board, plan)
            self.assertRaises(NothingToRedo, board.redo)

    def test_trials_and_twins(self):
        rng = rng_of(432)
        for _ in range(10):
            start = likely(rng)
            board = Board(start)
            plan = self.edit(rng, board, start)

            def call(it):
                inner = self.edit(rng, it, plan)
                self.check(it, inner)
                twin = it.twin()
                with it.trial():
                    self.check(it, self.edit(rng, it, inner))
                self.check(it, inner)
                self.check(twin, inner)
                self.check(twin, self.edit(rng, twin, inner))
                self.check(it, inner)

            board.on_trial(call)
            self.check(board, plan)
            twin = board.twin()
            self.edit(rng, board, plan)
            self.check(twin, plan)
            twin.undo()
            self.check(twin, start)

    def test_edits_that_raise(self):
        board = Board(P1)
        before = (board.verdict, board.slots, board.edits)
        for edit in (lambda: board.add_wait(("a", "b", 5)), lambda: board.drop_wait(("a", "b", 0)),
                     lambda: board.move("a", 3), lambda: board.set_depth(0), lambda: board.share(())):
            self.assertIsNotNone(caught(edit))
            self.assertEqual((board.verdict, board.slots, board.edits), before)
            self.check(board, P1)


if __name__ == "__main__":
    unittest.main()
