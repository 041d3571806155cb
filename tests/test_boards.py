import unittest

from everframe.boards import Board
from everframe.errors import Busy, NothingToRedo, NothingToUndo
from everframe.plans import Plan
from everframe.slots import fewest_slots
from everframe.verdicts import verdict
from everframe.webs import Web
from tests import oracles
from tests.samples import E1, E2, G2, ODD, P1, P2, bare, caught, random_plan, random_sharing, rng_of

BEFORE_A = ("a", "b", 0)
READS = ("d", "a", 0)
APART = Plan(E1).sharing


class Broken(BaseException):
    """An exception of a class of its own."""


def told_by(board):
    """All that a board tells."""
    return (board.snapshot(), board.status, board.verdict, board.slots, board.edits, board.undone, len(board))


class TestStart(unittest.TestCase):
    def test_example(self):
        board = Board(P1)
        self.assertEqual(
            [board.status, board.drop_wait(READS), board.undo(), board.add_wait(BEFORE_A), board.slots, board.undo()],
            ["right", "wrong", "right", "still", None, "right"],
        )
        found = (board.slots[1], board.on_trial(lambda it: (it.add_wait(("c", "d", 0)), it.slots[1])), board.slots[1],
                 board.edits, board.undone)
        self.assertEqual(found, (3, ("right", 2), 3, 0, 1))

    def test_new_board(self):
        for plan in (P1, P2, Plan(E1), Plan(E1, waits=(("b", "b", 0),))):
            board = Board(plan=plan)
            self.assertEqual([board.snapshot(), board.edits, board.undone, len(board)], [plan, 0, 0, 0])
            self.assertEqual([board.verdict, board.status], [verdict(plan), verdict(plan)[0]])
            self.assertEqual(board.slots, None if board.status == "still" else fewest_slots(plan))

    def test_the_plan_is_copied(self):
        plan = Plan(E1, waits=P1.waits)
        board = Board(plan)
        plan.waits = ()
        plan.depth = 1
        plan.rows = {0: ("c", "b", "a")}
        self.assertEqual([board.snapshot(), board.status], [P1, "right"])
        taken = board.snapshot()
        taken.waits = ()
        taken.sharing = ((1, (("r", 0), ("p", 0), ("s", 0))),)
        self.assertEqual([board.snapshot(), board.status], [P1, "right"])
        board.set_depth(2)
        self.assertEqual([plan.depth, taken.depth], [1, None])


class TestEdits(unittest.TestCase):
    def check(self, edit, plan, status):
        """That an edit of a board on P1 gives this plan, and can be undone and redone."""
        board = Board(P1)
        self.assertEqual([edit(board), board.status], [status, status])
        self.assertEqual(told_by(board), (plan, status, verdict(plan),
                                          None if status == "still" else fewest_slots(plan), 1, 0, 1))
        self.assertEqual([board.undo(), board.snapshot(), board.edits, board.undone], ["right", P1, 0, 1])
        self.assertEqual([board.redo(), board.snapshot(), board.edits, board.undone], [status, plan, 1, 0])

    def refuse(self, edit, error):
        """That an edit raises an error and changes nothing."""
        board = Board(P1)
        board.set_depth(3)
        board.add_wait(("e", "a", 0))
        board.undo()
        before = told_by(board)
        self.assertEqual(caught(edit, board), error)
        self.assertEqual(told_by(board), before)
        self.assertEqual([board.redo(), board.undo(), board.undo(), board.snapshot()], ["right", "right", "right", P1])

    def test_add_wait(self):
        self.check(lambda board: board.add_wait(("e", "a", 0)), P1.with_wait(("e", "a", 0)), "right")
        self.check(lambda board: board.add_wait(wait=BEFORE_A), P1.with_wait(BEFORE_A), "still")
        # a wait that is there already
        self.check(lambda board: board.add_wait(READS), P1, "right")
        for value in (*ODD, ("a", "b"), ("a", "b", True), ("a", "b", 5), ("q", "a", 0), ["a", "b", 0], (["a"], "b", 0)):
            self.refuse(lambda board: board.add_wait(value), ("InvalidPlan", "waits", 0))

    def test_drop_wait(self):
        self.check(lambda board: board.drop_wait(wait=READS), P1.without_wait(READS), "wrong")
        self.check(lambda board: board.drop_wait(("a", "f", 1)), P1.without_wait(("a", "f", 1)), "wrong")
        for value in (*ODD, ("d", "a", 1), ("d", "a", False), ["d", "a", 0], ("a", "f", True), ("q", "a", 0),
                      (["a"], "b", 0)):
            self.refuse(lambda board: board.drop_wait(value), ("InvalidPlan", "waits", 0))

    def test_move(self):
        for job, place, row in (("a", 2, ("b", "c", "a")), ("a", 1, ("b", "a", "c")), ("c", 0, ("c", "a", "b")),
                                ("c", 1, ("a", "c", "b")), ("b", 0, ("b", "a", "c")), ("b", 1, ("a", "b", "c"))):
            plan = Plan(E1, waits=P1.waits, rows={0: row})
            self.check(lambda board: board.move(job=job, place=place), plan, verdict(plan)[0])
        plan = Plan(E1, waits=P1.waits, rows={1: ("f", "d", "e")})
        self.check(lambda board: board.move("f", 0), plan, verdict(plan)[0])
        for value in (*ODD, "q", "r", "A"):
            self.refuse(lambda board: board.move(value, 9), ("NoJob", value))
        for place in (*ODD, 3, -1):
            for job, queue in (("a", 0), ("f", 1)):
                self.refuse(lambda board: board.move(job, place), ("InvalidPlan", "rows", queue))

    def test_set_depth(self):
        for depth in (None, 1, 2, 3, 4):
            plan = Plan(E1, waits=P1.waits, depth=depth)
            self.check(lambda board: board.set_depth(depth=depth), plan, "right")
        for value in (*ODD, 0, "2", [1]):
            if value is not None:
                self.refuse(lambda board: board.set_depth(value), ("InvalidPlan", "depth", -1))

    def test_share(self):
        wide = ((3, (("s", 1), ("p", 0))), (2, (("r", 1),)))
        self.check(lambda board: board.share(sharing=wide), Plan(E1, waits=P1.waits, sharing=wide), "right")
        tight = ((1, (("r", 0), ("p", 0))), (1, (("s", 0),)))
        self.check(lambda board: board.share(tight), Plan(E1, waits=P1.waits, sharing=tight), "wrong")
        self.check(lambda board: board.share(None), P1, "right")
        for value in ODD:
            if value is not None:
                error = caught(Plan, E1, sharing=value)
                self.assertEqual(error[0], "InvalidSharing")
                self.refuse(lambda board: board.share(value), error)
        self.refuse(lambda board: board.share(APART[:2]), ("InvalidSharing", 2))
        self.refuse(lambda board: board.share((*APART, APART[0])), ("InvalidSharing", 3))
        self.refuse(lambda board: board.share(list(APART)), ("InvalidSharing", -1))

    def test_an_edit_that_leaves_the_plan_counts(self):
        board = Board(P1)
        for edit in (lambda: board.add_wait(READS), lambda: board.move("a", 0), lambda: board.set_depth(None),
                     lambda: board.share(None)):
            self.assertEqual(edit(), "right")
        self.assertEqual([board.edits, board.snapshot()], [4, P1])

    def test_move_when_rows_have_been_moved(self):
        board = Board(P1)
        board.move("a", 2)
        board.move("e", 0)
        board.move("b", 1)
        self.assertEqual(board.snapshot().rows, {0: ("c", "b", "a"), 1: ("e", "d", "f")})
        one = Board(Plan(Web(bare("a", 3), bare("b", 1))))
        self.assertEqual([one.move("a", 0), caught(one.move, "a", 1)], ["right", ("InvalidPlan", "rows", 3)])


class TestUndo(unittest.TestCase):
    def test_to_the_ends_and_beyond(self):
        board = Board(P1)
        self.assertEqual([caught(board.undo), caught(board.redo)], [("NothingToUndo",), ("NothingToRedo",)])
        plans = [P1]
        for edit in (lambda: board.drop_wait(READS), lambda: board.set_depth(1), lambda: board.move("c", 0),
                     lambda: board.add_wait(BEFORE_A)):
            edit()
            plans.append(board.snapshot())
        for _ in range(2):
            for at in range(4, 0, -1):
                self.assertEqual([board.snapshot(), board.edits, board.undone, len(board)], [plans[at], at, 4 - at, at])
                self.assertEqual(board.undo(), verdict(plans[at - 1])[0])
            before = told_by(board)
            self.assertRaises(NothingToUndo, board.undo)
            self.assertEqual(told_by(board), before)
            for at in range(4):
                self.assertEqual([board.snapshot(), board.undone], [plans[at], 4 - at])
                self.assertEqual(board.redo(), verdict(plans[at + 1])[0])
            before = told_by(board)
            self.assertRaises(NothingToRedo, board.redo)
            self.assertEqual(told_by(board), before)

    def test_a_new_edit_behind_undo(self):
        board = Board(P1)
        board.set_depth(1)
        board.set_depth(2)
        board.undo()
        board.set_depth(3)
        self.assertEqual([board.edits, board.undone, caught(board.redo)], [2, 0, ("NothingToRedo",)])
        board.undo()
        self.assertEqual(board.snapshot().depth, 1)
        board.undo()
        self.assertEqual([board.undone, caught(board.set_depth, 9), board.undone], [2, ("InvalidPlan", "depth", -1), 2])

    def test_many_edits(self):
        rng = rng_of(321)
        for _ in range(12):
            plan = random_plan(rng)
            board = Board(plan)
            done, undone = [plan.twin()], []
            for _ in range(25):
                self.step(rng, board, done, undone)
                self.assertEqual(told_by(board)[:2], (done[-1], verdict(done[-1])[0]))
                self.assertEqual([board.verdict, board.edits, board.undone],
                                 [verdict(done[-1]), len(done) - 1, len(undone)])
                still = oracles.stands_still(done[-1])
                self.assertEqual(board.slots, None if still else fewest_slots(done[-1]))

    def step(self, rng, board, done, undone):
        """One random edit, undo or redo, of the board and of the lists that tell what it should be."""
        plan = done[-1].twin()
        web = plan.web
        kind = rng.choice(("add", "drop", "move", "depth", "share", "undo", "undo", "redo"))
        if kind == "undo":
            if len(done) == 1:
                return self.assertRaises(NothingToUndo, board.undo)
            undone.append(done.pop())
            return self.assertEqual(board.undo(), verdict(done[-1])[0])
        if kind == "redo":
            if not undone:
                return self.assertRaises(NothingToRedo, board.redo)
            done.append(undone.pop())
            return self.assertEqual(board.redo(), verdict(done[-1])[0])
        if kind == "add":
            wait = (rng.choice(web.jobs), rng.choice(web.jobs), rng.randint(0, 4))
            plan.waits = (*plan.waits, wait)
            found = board.add_wait(wait)
        elif kind == "drop":
            if not plan.waits:
                return None
            wait = rng.choice(plan.waits)
            plan.waits = [one for one in plan.waits if one != wait]
            found = board.drop_wait(wait)
        elif kind == "move":
            job = rng.choice(web.jobs)
            row = list(plan.rows[web.queue_of(job)])
            row.remove(job)
            place = rng.randint(0, len(row))
            row.insert(place, job)
            plan.rows = {**plan.rows, web.queue_of(job): row}
            found = board.move(job, place)
        elif kind == "depth":
            plan.depth = rng.choice((None, 1, 2, 3, 4))
            found = board.set_depth(plan.depth)
        else:
            plan.sharing = random_sharing(rng, web)
            found = board.share(plan.sharing)
        undone.clear()
        done.append(plan)
        return self.assertEqual(found, verdict(plan)[0])


class TestWatches(unittest.TestCase):
    def test_changes_of_the_status(self):
        board, seen = Board(P1), []
        self.assertIsNone(board.watch(lambda before, after: seen.append((before, after))))
        board.add_wait(("e", "a", 0))
        self.assertEqual(seen, [])
        board.drop_wait(READS)
        self.assertEqual(seen, [("right", "wrong")])
        board.add_wait(BEFORE_A)
        board.set_depth(1)
        self.assertEqual(seen, [("right", "wrong"), ("wrong", "still")])
        board.undo()
        board.undo()
        self.assertEqual(seen[2:], [("still", "wrong")])
        board.redo()
        self.assertEqual(seen[3:], [("wrong", "still")])
        board.undo()
        board.undo()
        self.assertEqual(seen[4:], [("still", "wrong"), ("wrong", "right")])
        caught(board.add_wait, 7)
        self.assertEqual(len(seen), 6)

    def test_in_their_order_and_twice(self):
        board, seen = Board(P1), []

        def one(before, after):
            seen.append(("one", before, after, board.status))

        def two(before, after):
            seen.append(("two", before, after, board.edits))

        for call in (one, two, one):
            board.watch(call=call)
        board.drop_wait(READS)
        self.assertEqual(seen, [("one", "right", "wrong", "wrong"), ("two", "right", "wrong", 1),
                                ("one", "right", "wrong", "wrong")])

    def test_what_a_watch_returns_has_no_effect(self):
        board = Board(P1)
        board.watch(lambda before, after: "still")
        self.assertEqual([board.drop_wait(READS), board.status], ["wrong", "wrong"])

    def test_the_properties_tell_the_new_state(self):
        board, seen = Board(P1), []
        board.watch(lambda before, after: seen.append(told_by(board)))
        board.add_wait(BEFORE_A)
        self.assertEqual(seen, [told_by(board)])
        board.undo()
        self.assertEqual(seen[1], told_by(board))

    def test_added_while_a_watch_runs(self):
        board, seen = Board(P1), []

        def adds(before, after):
            seen.append("adds")
            board.watch(lambda before, after: seen.append("added"))

        board.watch(adds)
        board.watch(lambda before, after: seen.append("second"))
        board.drop_wait(READS)
        self.assertEqual(seen, ["adds", "second"])
        board.undo()
        self.assertEqual(seen[2:], ["adds", "second", "added"])

    def test_busy(self):
        board, seen = Board(P1), []
        board.set_depth(2)
        board.set_depth(None)
        board.undo()

        def busy(before, after):
            calls = [
                lambda: board.add_wait(7), lambda: board.drop_wait(7), lambda: board.move("q", 9),
                lambda: board.set_depth(9),
                lambda: board.share(7), board.undo, board.redo, lambda: board.on_trial(seen.append), board.trial,
                lambda: board.add_wait(("e", "a", 0)), lambda: board.move("a", 0), lambda: board.share(None),
            ]
            state = told_by(board)
            seen.extend(caught(call) for call in calls)
            with self.assertRaises(Busy):
                with board.trial():
                    seen.append("never")
            self.assertEqual(told_by(board), state)

        board.watch(busy)
        self.assertEqual(board.drop_wait(READS), "wrong")
        self.assertEqual(seen, [("Busy",)] * 12)
        self.assertEqual([board.undo(), board.edits], ["right", 1])

    def test_a_trial_that_was_made_before_is_busy_too(self):
        board, seen = Board(P1), []
        trial = board.trial()

        def busy(before, after):
            try:
                with trial:
                    seen.append("never")
            except Busy:
                seen.append("busy")

        board.watch(busy)
        board.drop_wait(READS)
        self.assertEqual([seen, board.edits], [["busy"], 1])
        with trial as held:
            self.assertEqual([held.undone, held.edits, held is board], [0, 0, True])
            held.set_depth(1)
        self.assertEqual([board.edits, board.snapshot().depth], [1, None])

    def test_a_watch_that_edits(self):
        board = Board(P1)
        board.watch(lambda before, after: board.undo())
        self.assertEqual(caught(board.drop_wait, READS), ("Busy",))
        # the edit stands
        self.assertEqual([board.status, board.edits], ["wrong", 1])

    def test_exceptions_pass_through(self):
        for error in (ValueError("no"), Broken(), KeyboardInterrupt(), StopIteration(), KeyError(3)):
            board, seen = Board(P1), []

            def breaks(before, after):
                seen.append(after)
                raise error

            board.watch(breaks)
            board.watch(lambda before, after: seen.append("behind"))
            with self.assertRaises(error.__class__) as found:
                board.drop_wait(READS)
            self.assertIs(found.exception, error)
            self.assertEqual([seen, board.status, board.edits, board.undone], [["wrong"], "wrong", 1, 0])
            with self.assertRaises(error.__class__):
                board.undo()
            self.assertEqual([board.status, board.edits, board.undone], ["right", 0, 1])
            with self.assertRaises(error.__class__):
                board.redo()
            self.assertEqual([board.status, board.set_depth(2), seen], ["wrong", "wrong", ["wrong", "right", "wrong"]])

    def test_twins_in_a_watch(self):
        board, made = Board(P1), []

        def twins(before, after):
            twin = board.twin()
            # the twin is not busy, and it has no watches
            twin.undo()
            twin.redo()
            twin.on_trial(lambda it: it.set_depth(1))
            made.append(twin)

        board.watch(twins)
        board.drop_wait(READS)
        self.assertEqual([len(made), made[0] == board, told_by(made[0])], [1, True, told_by(board)])


class TestTrials(unittest.TestCase):
    def board(self):
        """A board with an edit to undo and one to redo."""
        board = Board(P1)
        board.set_depth(1)
        board.set_depth(2)
        board.undo()
        return board

    def test_behind_it_all_is_as_before(self):
        board = self.board()
        before = told_by(board)

        def call(it):
            self.assertIs(it, board)
            self.assertEqual([it.edits, it.undone, len(it), it.snapshot().depth], [0, 0, 0, 1])
            self.assertEqual([caught(it.undo), caught(it.redo)], [("NothingToUndo",), ("NothingToRedo",)])
            self.assertEqual(it.drop_wait(("a", "f", 1)), verdict(Plan(E1, waits=P1.waits[1:], depth=1))[0])
            it.add_wait(BEFORE_A)
            self.assertEqual([it.edits, it.status, it.slots], [2, "still", None])
            it.undo()
            self.assertEqual([it.edits, it.undone, it.redo(), it.edits], [1, 1, "still", 2])
            it.undo()
            it.undo()
            self.assertEqual([it.edits, it.undone, it.snapshot().depth, caught(it.undo)], [0, 2, 1, ("NothingToUndo",)])
            it.set_depth(4)
            return [it.snapshot().depth]

        self.assertEqual(board.on_trial(call=call), [4])
        self.assertEqual(told_by(board), before)
        self.assertEqual([board.redo(), board.snapshot().depth, board.undo(), board.undo(), board.snapshot().depth],
                         ["right", 2, "right", "right", None])

    def test_a_suite(self):
        board = self.board()
        before = told_by(board)
        with board.trial() as it:
            self.assertIs(it, board)
            self.assertEqual([it.edits, it.undone], [0, 0])
            self.assertEqual([caught(it.undo), caught(it.redo)], [("NothingToUndo",), ("NothingToRedo",)])
            it.add_wait(BEFORE_A)
            it.undo()
            it.set_depth(3)
        self.assertEqual(told_by(board), before)
        with board.trial():
            board.set_depth(4)
        self.assertEqual(told_by(board), before)

    def test_exceptions_pass_through(self):
        for error in (ValueError("no"), Broken(), KeyboardInterrupt(), StopIteration(), KeyError(3)):
            board = self.board()
            before = told_by(board)

            def breaks(it):
                it.set_depth(4)
                it.add_wait(BEFORE_A)
                raise error

            with self.assertRaises(error.__class__) as found:
                board.on_trial(breaks)
            self.assertIs(found.exception, error)
            self.assertEqual(told_by(board), before)
            with self.assertRaises(error.__class__) as found:
                with board.trial() as it:
                    breaks(it)
            self.assertIs(found.exception, error)
            self.assertEqual(told_by(board), before)
        # an error of an edit, too
        self.assertEqual(caught(board.on_trial, lambda it: it.set_depth(9)), ("InvalidPlan", "depth", -1))
        self.assertEqual(told_by(board), before)

    def test_nested(self):
        board = self.board()
        before = told_by(board)

        def inner(it):
            self.assertEqual([it.edits, it.undone, caught(it.undo)], [0, 0, ("NothingToUndo",)])
            it.set_depth(3)
            with it.trial():
                self.assertEqual(it.edits, 0)
                it.set_depth(None)
                it.set_depth(1)
            self.assertEqual([it.edits, it.snapshot().depth], [1, 3])
            return it.edits

        def outer(it):
            it.set_depth(4)
            it.add_wait(("e", "a", 0))
            it.undo()
            state = told_by(it)
            self.assertEqual(it.on_trial(inner), 1)
            self.assertEqual(told_by(it), state)
            with self.assertRaises(Broken):
                with it.trial():
                    it.set_depth(1)
                    raise Broken()
            self.assertEqual(told_by(it), state)
            self.assertEqual([it.redo(), it.undo(), it.undo(), it.snapshot().depth], ["right", "right", "right", 1])
            return "done"

        self.assertEqual(board.on_trial(outer), "done")
        self.assertEqual(told_by(board), before)

    def test_one_trial_twice(self):
        board = self.board()
        before = told_by(board)
        trial = board.trial()
        for depth in (3, 4):
            with trial as it:
                it.set_depth(depth)
                with trial:
                    it.set_depth(None)
                self.assertEqual([it.snapshot().depth, it.edits], [depth, 1])
            self.assertEqual(told_by(board), before)

    def test_trials_that_end_in_another_order(self):
        board = self.board()
        before = told_by(board)

        def part(depth):
            with board.trial():
                board.set_depth(depth)
                yield board.edits

        one, two = part(3), part(4)
        self.assertEqual([next(one), next(two), board.snapshot().depth], [1, 1, 4])
        one.close()
        two.close()
        self.assertEqual(told_by(board), before)

        def leaves_open(it):
            kept.append(part(4))
            next(kept[-1])

        kept = []
        board.on_trial(leaves_open)
        self.assertEqual(told_by(board), before)
        kept[0].close()
        self.assertEqual(told_by(board), before)

    def test_no_watch_is_called(self):
        board, seen = Board(P1), []
        board.watch(lambda before, after: seen.append((before, after)))

        def call(it):
            it.drop_wait(READS)
            it.add_wait(BEFORE_A)
            it.undo()
            it.redo()
            it.watch(lambda before, after: seen.append("added"))
            it.undo()
            with it.trial():
                it.add_wait(BEFORE_A)

        board.on_trial(call)
        self.assertEqual([seen, board.status], [[], "right"])
        with board.trial():
            board.drop_wait(READS)
        self.assertEqual([seen, board.status], [[], "right"])
        # a watch that was added inside stays
        board.drop_wait(READS)
        self.assertEqual(seen, [("right", "wrong"), "added"])

    def test_watches_behind_a_trial_that_raises(self):
        board, seen = Board(P1), []

        def call(it):
            it.watch(lambda before, after: seen.append(after))
            raise Broken()

        self.assertRaises(Broken, board.on_trial, call)
        board.drop_wait(READS)
        self.assertEqual(seen, ["wrong"])

    def test_twins_in_a_trial(self):
        board = self.board()
        made = []

        def call(it):
            it.set_depth(3)
            it.set_depth(4)
            it.undo()
            made.append(it.twin())
            it.set_depth(None)

        board.on_trial(call)
        twin = made[0]
        self.assertEqual([twin.snapshot().depth, twin.edits, twin.undone], [3, 1, 1])
        seen = []
        twin.watch(lambda before, after: seen.append(after))
        twin.drop_wait(READS)
        # it is outside of the trial, so its watches are called
        self.assertEqual([seen, board.snapshot().depth], [["wrong"], 1])
        self.assertEqual([twin.undo(), twin.undo(), twin.snapshot().depth, caught(twin.undo)],
                         ["right", "right", 1, ("NothingToUndo",)])
        self.assertEqual(board.edits, 1)

    def test_what_a_call_returns(self):
        board = Board(P1)
        for value in (None, 0, [], "x"):
            self.assertEqual(board.on_trial(lambda it: value), value)


class TestTwins(unittest.TestCase):
    def test_go_on_by_themselves(self):
        board, seen = Board(P1), []
        board.watch(lambda before, after: seen.append(after))
        board.set_depth(1)
        board.set_depth(2)
        board.undo()
        twin = board.twin()
        self.assertEqual([told_by(twin), twin == board], [told_by(board), True])
        before = told_by(board)
        twin.redo()
        twin.drop_wait(READS)
        twin.add_wait(BEFORE_A)
        self.assertEqual([told_by(board), seen, twin == board], [before, [], False])
        before = told_by(twin)
        board.redo()
        board.undo()
        board.undo()
        self.assertEqual(told_by(twin), before)
        for _ in range(4):
            twin.undo()
        self.assertEqual([twin.snapshot(), twin.undone, caught(twin.undo)], [P1, 4, ("NothingToUndo",)])


class TestForm(unittest.TestCase):
    def test_equality(self):
        board, other = Board(P1), Board(P1)
        self.assertTrue(board == other)
        board.set_depth(1)
        self.assertTrue(board != other)
        board.undo()
        # edits and watches do not count
        other.watch(print)
        self.assertTrue(board == other)
        for value in (*ODD, P1, E1, board.snapshot(), Board(P2)):
            self.assertFalse(board == value)
            self.assertFalse(value == board)

    def test_contains(self):
        board = Board(P1)
        for wait in P1.waits:
            self.assertIs(wait in board, True)
        for value in (*ODD, ("d", "a", 1), ("d", "a", False), ["d", "a", 0], ("a", "f", True), ("a", "b", 0), "d",
                      "a", (["a"], "b", 0)):
            self.assertIs(value in board, False)
        board.drop_wait(READS)
        self.assertEqual([READS in board, board.undo(), READS in board], [False, "right", True])
        board.on_trial(lambda it: self.assertEqual([it.drop_wait(READS), READS in it], ["wrong", False]))
        self.assertIn(READS, board)

    def test_length(self):
        board = Board(P2)
        self.assertEqual(len(board), 0)
        board.set_depth(1)
        board.share(G2)
        self.assertEqual([len(board), board.edits], [2, 2])
        board.undo()
        self.assertEqual(len(board), 1)
        self.assertEqual(E2.jobs, board.snapshot().web.jobs)


if __name__ == "__main__":
    unittest.main()
