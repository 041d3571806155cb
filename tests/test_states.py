import unittest

from everframe.changecheck import check_changes
from everframe.errors import Standstill, Unsettled
from everframe.plans import Plan
from everframe.sharings import is_sharing
from everframe.slots import fewest_slots
from everframe.states import fewest_changes, state_row
from everframe.verdicts import faults
from everframe.waiting import planned
from everframe.webs import Web
from tests import oracles
from tests.samples import C, E1, E2, G2, ODD, P1, P2, U, caught, many_jobs, random_plan, random_web, rng_of
from tests.slowchecks import fault_of_changes, kept, shared
from tests.slowstates import fewest_by_search, random_wishes, slow_changes, slow_row, slow_rows

WISHES = {("w", "h"): "target", ("v", "h"): "sample", ("t", "x"): "target", ("y", "x"): "sample"}
STILL = Plan(E1, waits=(("d", "a", 0), ("a", "d", 0)))
# three buffers in one row, each of which can follow each other one
ROW = Plan(Web(
    ("a", 0, (("make", "p"),)), ("b", 0, (("read", "p", 0),)), ("c", 0, (("make", "q"),)),
    ("d", 0, (("read", "q", 0),)),
    ("e", 0, (("make", "r"),)), ("f", 0, (("read", "r", 0),)),
))


def with_needs(plan):
    """The plan with a wait for each need, so that the uses of an instance begin with its maker."""
    waits = [(after, before, back) for before, after, back in oracles.needs(plan.web)]
    return Plan(plan.web, rows=plan.rows, waits=(*plan.waits, *waits), depth=plan.depth)


class TestStateRow(unittest.TestCase):
    def test_examples(self):
        self.assertEqual(state_row(P2, "h", WISHES), ("target", "sample"))
        self.assertEqual(caught(state_row, P1, "r", {("b", "r"): "sample", ("d", "r"): "copy"}),
                         ("Unsettled", "r", "b", "d"))
        self.assertEqual(state_row(plan=P2, buffer="x", wishes={}), ("common",))

    def test_updates(self):
        plan = Plan(U, waits=(("u", "x", 0),))
        self.assertEqual(state_row(plan, "b", {("u", "b"): "copy"}), ("common", "copy", "common"))
        plan = Plan(U, waits=(("u", "x", 0), ("z", "u", 0)))
        self.assertEqual(state_row(plan, "b", {}), ("common",))
        self.assertEqual(state_row(plan, "b", {("m", "b"): "one", ("x", "b"): "two", ("u", "b"): "one",
                                               ("z", "b"): "one"}),
                         ("one", "two", "one"))
        self.assertEqual(state_row(plan, "b", {("m", "b"): "one", ("z", "b"): "two"}), ("one", "common", "two"))

    def test_reads_of_several_ages(self):
        web = Web(("m", 0, (("make", "b"),)), ("x", 1, (("read", "b", 0), ("read", "b", 3))),
                  ("y", 2, (("read", "b", 1),)))
        plan = Plan(web, waits=(("x", "m", 0), ("y", "x", 0)))
        # x reads b at once and three frames later, y reads it in between
        self.assertEqual(state_row(Plan(web, waits=(("x", "m", 0), ("y", "x", 0), ("x", "y", 1))), "b",
                                   {("x", "b"): "in"}), ("common", "in", "common", "in"))
        # with y some frames behind, the last read of x may come ahead of y
        self.assertEqual(caught(state_row, plan, "b", {("x", "b"): "in"}), ("Unsettled", "b", "x", "y"))
        self.assertEqual(state_row(plan, "b", {("m", "b"): "in"}), ("in", "common"))

    def test_several_uses_by_the_maker(self):
        web = Web(("m", 0, (("make", "b"), ("read", "b", 1))), ("x", 0, (("read", "b", 0),)))
        self.assertEqual(state_row(Plan(web), "b", {("m", "b"): "out"}), ("out", "common", "out"))
        self.assertEqual(state_row(Plan(web), "b", {("x", "b"): "in"}), ("common", "in", "common"))

    def test_wishes_that_name_pairs_in_any_order(self):
        pairs = [(("w", "h"), "a"), (("v", "h"), "b"), (("t", "x"), "b"), (("y", "x"), "a")]
        rng = rng_of(221)
        for _ in range(8):
            rng.shuffle(pairs)
            wishes = dict(pairs)
            self.assertEqual([state_row(P2, "h", wishes), state_row(P2, "x", wishes)], [("a", "b"), ("b", "a")])
            self.assertEqual(fewest_changes(P2, wishes), fewest_changes(P2, dict(sorted(pairs))))
            self.assertEqual(wishes, dict(pairs))

    def test_the_first_pair(self):
        web = Web(("m", 0, (("make", "b"),)), ("x", 1, (("read", "b", 0),)), ("y", 2, (("read", "b", 0),)),
                  ("z", 3, (("read", "b", 0),)))
        plan = Plan(web, waits=(("x", "m", 0), ("y", "m", 0), ("z", "m", 0)))
        for wishes, pair in (
            ({("x", "b"): "one"}, ("x", "y")), ({("y", "b"): "one"}, ("x", "y")), ({("z", "b"): "one"}, ("x", "z")),
            ({("x", "b"): "one", ("y", "b"): "one"}, ("x", "z")),
        ):
            self.assertEqual(caught(state_row, plan, "b", wishes), ("Unsettled", "b", *pair))
        plan.waits = (("x", "m", 0), ("y", "x", 0), ("z", "m", 0))
        self.assertEqual(caught(state_row, plan, "b", {("z", "b"): "one"}), ("Unsettled", "b", "x", "z"))
        self.assertEqual(caught(state_row, plan, "b", {("y", "b"): "one"}), ("Unsettled", "b", "y", "z"))
        self.assertEqual(state_row(plan, "b", {("m", "b"): "one"}), ("one", "common"))

    def test_a_common_wish_is_no_other_state(self):
        self.assertEqual(state_row(P1, "r", {("b", "r"): "common"}), ("common",))
        self.assertEqual(state_row(P1, "r", {("a", "r"): "common", ("d", "r"): "common"}), ("common",))

    def test_carry(self):
        plan = Plan(C, waits=(("v", "w", 1), ("w", "v", 0)))
        self.assertEqual(state_row(plan, "h", {("w", "h"): "out"}), ("out", "common"))

    def test_random_plans(self):
        rng = rng_of(222)
        settled = []
        for _ in range(300):
            plan = random_plan(rng, random_web(rng, jobs=rng.randint(2, 6), buffers=2))
            if rng.random() < 0.7:
                plan = with_needs(plan)
            if oracles.stands_still(plan):
                continue
            wishes = random_wishes(rng, plan.web, share=rng.choice((0.2, 0.7)), names=("a", "b", "common"))
            for name in plan.web.buffers:
                due = slow_row(plan, name, wishes)
                settled.append(isinstance(due, tuple) and len(due))
                if isinstance(due, list):
                    self.assertEqual(caught(state_row, plan, name, wishes), ("Unsettled", *due))
                else:
                    self.assertEqual(state_row(plan, name, wishes), due)
        self.assertTrue(min(settled.count(at) for at in (False, 1, 2, 3)) > 10)

    def test_errors(self):
        for value in (*ODD, "q", "w", "H"):
            self.assertEqual(caught(state_row, P2, value, WISHES), ("NoBuffer", value))
            self.assertEqual(caught(state_row, STILL, value, {}), ("NoBuffer", value))
        with self.assertRaises(Standstill) as error:
            state_row(STILL, "r", {("b", "r"): "sample", ("d", "r"): "copy"})
        self.assertTrue(oracles.is_ring(STILL, error.exception.ring))


class TestFewestChanges(unittest.TestCase):
    def check(self, plan, wishes):
        """That what is told is a right answer, as its parts show."""
        found = fewest_changes(plan, wishes)
        told = fewest_slots(plan)
        if told[0] != "slots":
            self.assertEqual(found, told)
            return found
        self.assertEqual([found[0], found[1], len(found)], ["changes", told[1], 5])
        self.assertIsNone(fault_of_changes(plan, slow_rows(plan, wishes), found))
        self.assertIs(check_changes(plan, wishes, found), True)
        sharing = found[3]
        self.assertTrue(is_sharing(plan.web, sharing))
        other = shared(plan, sharing)
        # as a plan keeps it, each group with the first member at the shift 0
        self.assertEqual([other.sharing, [members[0][1] for _, members in sharing]], [sharing, [0] * len(sharing)])
        self.assertEqual([fault for fault in faults(other) if fault[0] != "need"], [])
        self.assertEqual(fewest_changes(plan, wishes), found)
        return found

    def test_example(self):
        found = self.check(P2, WISHES)
        self.assertEqual(found, ("changes", 2, 4, ((2, (("h", 0), ("x", 1))),), (("h", 0, 0, 0, 1), ("x", 0, 0, 0, 1))))
        self.assertEqual([fewest_changes(P2, {})[2], fewest_changes(plan=P2, wishes=WISHES)], [0, found])

    def test_the_best_order_is_chosen(self):
        # p goes from a to b, q from c to a, r from b to c: p, r, q, p has no change between them
        wishes = {("a", "p"): "a", ("b", "p"): "b", ("c", "q"): "c", ("d", "q"): "a", ("e", "r"): "b", ("f", "r"): "c"}
        found = self.check(ROW, wishes)
        self.assertEqual(fewest_slots(ROW)[1], 1)
        # with one slot the row tells the order: p, q, r
        self.assertEqual(found[1:3], (1, 6))
        loose = Plan(Web(
            ("a", 0, (("make", "p"), ("make", "q"), ("make", "r"))),
            ("f", 0, (("read", "p", 0), ("read", "q", 0), ("read", "r", 0))),
        ))
        wishes = {("a", "p"): "a", ("f", "p"): "a", ("a", "q"): "a", ("f", "q"): "a", ("a", "r"): "b", ("f", "r"): "b"}
        self.assertEqual(fewest_slots(loose)[1], 3)
        self.assertEqual(self.check(loose, wishes)[1:3], (3, 0))
        wishes = {("f", "p"): "x", ("f", "q"): "y", ("a", "q"): "x", ("a", "r"): "y"}
        # p from common to x, q from x to y, r from y to common
        self.assertEqual(self.check(loose, wishes)[2], 3)

    def test_fewest_slots_go_ahead_of_fewest_changes(self):
        # alone each buffer would keep its state, but two slots are enough for three buffers
        web = Web(("a", 0, (("make", "p"),)), ("b", 0, (("read", "p", 0),)), ("c", 0, (("make", "q"),)),
                  ("d", 0, (("read", "q", 0),)))
        wishes = {("a", "p"): "one", ("b", "p"): "one", ("c", "q"): "two", ("d", "q"): "two"}
        self.assertEqual(self.check(Plan(web), wishes)[1:3], (1, 2))

    def test_against_a_search_over_all_sharings(self):
        rng = rng_of(223)
        counts = []
        while len(counts) < 60:
            web = random_web(rng, jobs=rng.randint(2, 5), buffers=rng.randint(1, 3), optional=rng.random() < 0.4)
            plan = with_needs(random_plan(rng, web))
            if oracles.stands_still(plan) or fewest_slots(plan)[0] != "slots" or fewest_slots(plan)[1] > 7:
                continue
            wishes = random_wishes(rng, web, share=rng.choice((0.3, 0.9)), names=("a", "b", "c"))
            try:
                found = self.check(plan, wishes)
            except Unsettled as error:
                due = slow_row(plan, error.buffer, wishes)
                self.assertEqual(due, [error.buffer, error.one, error.other])
                continue
            self.assertEqual(found[2], fewest_by_search(plan, wishes, found[1]))
            self.assertEqual(found[2], slow_changes(shared(plan, found[3]), wishes))
            counts.append(found[2])
        self.assertTrue(max(counts) > 3 and counts.count(0) < 30)

    def test_random_plans(self):
        rng = rng_of(224)
        words = []
        for _ in range(400):
            plan = random_plan(rng, random_web(rng, buffers=rng.randint(0, 6), optional=rng.random() < 0.5))
            if oracles.stands_still(plan):
                continue
            wishes = random_wishes(rng, plan.web, share=rng.choice((0, 0.5)), names=("a", "common"))
            try:
                words.append(self.check(plan, wishes)[0])
            except Unsettled as error:
                rows = [slow_row(plan, name, wishes) for name in plan.web.buffers]
                self.assertEqual([row for row in rows if isinstance(row, list)][0], list(vars(error).values()))
                words.append("unsettled")
        self.assertTrue(min(words.count(word) for word in ("changes", "endless", "kept", "unsettled")) > 10)

    def test_unsettled_goes_ahead(self):
        web = Web(("k", 0, (("keep", "h"),)), ("v", 1, (("read", "h", 1),)), ("x", 2, (("read", "h", 0),)))
        plan = Plan(web)
        self.assertEqual(fewest_changes(plan, {})[0], "kept")
        self.assertEqual(caught(fewest_changes, plan, {("v", "h"): "in"}), ("Unsettled", "h", "k", "v"))
        loose = Plan(E2, waits=(("v", "w", 1),))
        self.assertEqual(fewest_changes(loose, WISHES), ("endless", "h", "v", ("w",)))
        self.assertEqual(caught(fewest_changes, Plan(E2), WISHES), ("Unsettled", "h", "w", "v"))
        # the least buffer
        both = {**WISHES, ("t", "x"): "one"}
        self.assertEqual(caught(fewest_changes, Plan(E2), both), ("Unsettled", "h", "w", "v"))

    def test_kept_buffers(self):
        web = Web(("k", 0, (("keep", "h"),)), ("v", 0, (("read", "h", 0),)), ("m", 0, (("make", "b"),)),
                  ("z", 0, (("read", "b", 0),)))
        found = self.check(Plan(web), {("k", "h"): "out", ("m", "b"): "out"})
        # each goes from out to common and back
        self.assertEqual(found[1:3], (2, 4))
        self.assertEqual([found[3], [row[0] for row in found[4]]], [((1, (("b", 0),)), (1, (("h", 0),))), ["b"]])
        self.assertEqual(kept(web), ["h"])
        alone = Plan(Web(("k", 0, (("keep", "h"),)), ("v", 0, (("read", "h", 0),))))
        self.assertEqual(self.check(alone, {("k", "h"): "out"}), ("changes", 1, 2, ((1, (("h", 0),)),), ()))

    def test_several_sizes(self):
        jobs = [(job, ROW.web.queue_of(job), ROW.web.uses(job)) for job in ROW.web.jobs]
        wishes = {("a", "p"): "one", ("b", "p"): "two", ("e", "r"): "two", ("f", "r"): "one"}
        for sizes, many, changes in (({}, 1, 4), ({"q": 2}, 2, 2), ({"p": 2, "q": 3}, 3, 4), ({"p": 2, "r": 2}, 2, 2)):
            plan = Plan(Web(*jobs, sizes=sizes))
            self.assertEqual(self.check(plan, wishes)[1:3], (many, changes))
            self.assertEqual(fewest_by_search(plan, wishes, many), changes)

    def test_no_buffers(self):
        self.assertEqual(self.check(Plan(Web(*many_jobs(3))), {}), ("changes", 0, 0, (), ()))

    def test_ten_buffers(self):
        rng = rng_of(225)
        words = []
        for _ in range(60):
            web = random_web(rng, jobs=16, buffers=10, optional=False)
            plain = Web(*[(job, at % rng.randint(1, 4), web.uses(job)) for at, job in enumerate(web.jobs)])
            plan = random_plan(rng, plain, waits=4)
            plan.depth = rng.randint(1, 3)
            if oracles.stands_still(plan):
                continue
            plan = with_needs(plan)
            if oracles.stands_still(plan):
                continue
            wishes = {}
            for name in plain.buffers:
                wishes[plain.maker(name), name] = rng.choice("abc") * 3
            words.append(caught(fewest_changes, plan, wishes) or self.check(plan, wishes)[0])
        self.assertTrue(words.count("changes") > 7)

    def test_the_most_slots(self):
        names = ["b" + chr(97 + at) for at in range(10)]
        web = Web(
            ("ja", 0, ()), ("jb", 1, ()), ("jc", 2, ()), ("jd", 3, tuple(("make", name) for name in names)),
            ("je", 0, tuple(("read", name, 3) for name in names)), ("jf", 1, ()), ("jg", 2, ()), ("jh", 3, ()),
        )
        plan = Plan(web, waits=(("jf", "ja", 4), ("jg", "jb", 4), ("jh", "jc", 4), ("je", "jd", 3)))
        wishes = {("jd", name): "sab"[at % 3] for at, name in enumerate(names)}
        wishes.update({("je", name): "abs"[at % 3] for at, name in enumerate(names)})
        found = self.check(plan, wishes)
        self.assertEqual([found[1], found[2]], [190, 11])

    def test_the_sharing_of_the_plan_is_not_looked_at(self):
        for sharing in (None, G2, ((7, (("h", 3), ("x", 5))),), ((1, (("h", 0), ("x", 0))),)):
            self.assertEqual(fewest_changes(Plan(E2, waits=P2.waits, sharing=sharing), WISHES),
                             fewest_changes(P2, WISHES))

    def test_planned_webs(self):
        rng = rng_of(226)
        tried = 0
        while tried < 30:
            web = random_web(rng, buffers=4, optional=False)
            if not caught(planned, web):
                tried += 1
                self.check(planned(web), {})

    def test_standstill(self):
        with self.assertRaises(Standstill) as error:
            fewest_changes(STILL, {("b", "r"): "sample", ("d", "r"): "copy"})
        self.assertTrue(oracles.is_ring(STILL, error.exception.ring))

    def test_after_changes(self):
        plan = Plan(E2)
        self.assertEqual(caught(fewest_changes, plan, WISHES), ("Unsettled", "h", "w", "v"))
        plan.waits = P2.waits
        self.assertEqual(fewest_changes(plan, WISHES), fewest_changes(P2, WISHES))
        plan.depth = 1
        plan.waits = ()
        self.check(plan, WISHES)
        plan.rows = {1: ("t", "y", "v")}
        self.check(plan, WISHES)
        plan.sharing = G2
        plan.waits = (("w", "v", 0), ("v", "w", 0))
        self.assertRaises(Standstill, fewest_changes, plan, WISHES)


if __name__ == "__main__":
    unittest.main()
