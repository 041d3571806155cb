import itertools
import unittest

from everframe.errors import Standstill
from everframe.leading import lead_table, unmet
from everframe.needs import needs
from everframe.plans import Plan
from everframe.slots import fewest_slots
from everframe.verdicts import faults, verdict
from everframe.waiting import follows, least_waits, needed_waits, planned, savings
from everframe.webs import Web
from tests import oracles
from tests.samples import E1, E2, ODD, P1, P2, bare, caught, many_jobs, random_plan, random_web, rng_of

STILL = Plan(E1, waits=(("d", "a", 0), ("a", "d", 0)))


def slow_way(plan, wait):
    """The way that shows that a wait follows, as the document tells it."""
    job, of, back = wait
    bare_plan = Plan(plan.web, rows=plan.rows, waits=[one for one in plan.waits if one != wait], depth=plan.depth)
    ways = oracles.all_ways(bare_plan, of, job, len(plan.web))
    fitting = [one for one in ways if sum(tie[2] for tie in one) >= -back]
    return min(fitting, key=lambda one: (len(one), one)) if fitting else None


def slow_savings(plan):
    """All waits with which fewer slots are enough, tried one by one."""
    base = fewest_slots(plan)
    found = []
    for wait in itertools.product(plan.web.jobs, plan.web.jobs, range(5)):
        if wait in plan.waits or slow_way(plan, wait) is not None:
            continue
        further = plan.with_wait(wait)
        if oracles.stands_still(further):
            continue
        told = fewest_slots(further)
        if told[0] == "slots" and (base[0] != "slots" or told[1] < base[1]):
            found.append((told[1], wait))
    return sorted(found)


def lively(rng, jobs=None, buffers=None, waits=None, optional=True):
    """A random plan without a standstill."""
    while True:
        plan = random_plan(rng, random_web(rng, jobs, buffers, optional), waits)
        if not oracles.stands_still(plan):
            return plan


class TestFollows(unittest.TestCase):
    def test_waits_that_the_plan_has_not(self):
        self.assertEqual(follows(P1, ("e", "a", 0)), (("a", "d", 0), ("d", "e", 0)))
        self.assertEqual(follows(plan=P1, wait=("b", "a", 0)), (("a", "b", 0),))
        self.assertEqual(follows(P1, ("b", "a", 4)), (("a", "b", 0),))
        self.assertIsNone(follows(P1, ("e", "c", 0)))
        self.assertEqual(follows(P1, ("e", "c", 1)), (("c", "a", -1), ("a", "d", 0), ("d", "e", 0)))
        # a plan with it would stand still
        self.assertIsNone(follows(P1, ("a", "b", 0)))

    def test_waits_that_the_plan_has(self):
        self.assertEqual([follows(P1, wait) for wait in P1.waits], [None, None, None])
        plan = P1.with_wait(("e", "a", 0))
        self.assertEqual(follows(plan, ("e", "a", 0)), (("a", "d", 0), ("d", "e", 0)))
        # d's own wait does not follow from that of e
        self.assertIsNone(follows(plan, ("d", "a", 0)))

    def test_a_job_for_itself(self):
        for back in (1, 2, 3, 4):
            self.assertEqual(follows(P2, ("w", "w", back)), (("w", "w", -1),))
            self.assertEqual(follows(P2.with_wait(("w", "w", back)), ("w", "w", back)), (("w", "w", -1),))
            self.assertEqual(follows(P2, ("t", "t", back)), (("t", "y", 0), ("y", "v", -1), ("v", "t", 0)))
        self.assertIsNone(follows(P2, ("w", "w", 0)))
        self.assertIsNone(follows(P2, ("t", "t", 0)))

    def test_beside_ties_of_the_rows(self):
        plan = Plan(Web(bare("a", 0), bare("b", 0)), waits=(("b", "a", 0), ("b", "a", 3), ("a", "b", 1), ("a", "b", 2)))
        for wait in plan.waits:
            self.assertEqual(len(follows(plan, wait)), 1)
        self.assertEqual(least_waits(plan), ())
        self.assertIsNone(follows(Plan(plan.web, rows={0: ("b", "a")}), ("b", "a", 0)))

    def test_beside_ties_of_the_depth(self):
        web = Web(bare("a", 0), bare("b", 1))
        for depth in (1, 2, 3, 4):
            for back in range(5):
                plan = Plan(web, waits=(("b", "a", back),), depth=depth)
                found = follows(plan, ("b", "a", back))
                self.assertEqual(found, (("a", "b", -depth),) if back >= depth else None)
                self.assertEqual(least_waits(plan), () if back >= depth else (("b", "a", back),))

    def test_other_waits_between_the_same_jobs_stay(self):
        web = Web(bare("a", 0), bare("b", 1))
        plan = Plan(web, waits=(("b", "a", 1), ("b", "a", 2), ("b", "a", 4)))
        self.assertEqual([follows(plan, wait) for wait in plan.waits], [None, (("a", "b", -1),), (("a", "b", -1),)])
        self.assertEqual(follows(plan, ("b", "a", 3)), (("a", "b", -1),))
        self.assertIsNone(follows(plan, ("b", "a", 0)))
        self.assertEqual(least_waits(plan), (("b", "a", 1),))

    def test_fewest_ties_then_the_least(self):
        web = Web(bare("a", 0), bare("b", 1), bare("c", 2), bare("d", 3))
        plan = Plan(web, waits=(("b", "a", 1), ("c", "a", 0), ("d", "b", 1), ("d", "c", 2)))
        self.assertEqual(follows(plan, ("d", "a", 2)), (("a", "b", -1), ("b", "d", -1)))
        self.assertIsNone(follows(plan, ("d", "a", 1)))
        # a shorter way with a lesser lead counts, too, if it is enough
        longer = plan.with_wait(("d", "a", 3))
        self.assertEqual(follows(longer, ("d", "a", 4)), (("a", "d", -3),))
        self.assertEqual(follows(longer, ("d", "a", 2)), (("a", "b", -1), ("b", "d", -1)))

    def test_the_least_way_is_great_enough(self):
        # the way by c is less than the one by e, but its lead is too small
        web = Web(bare("a", 0), bare("b", 1), bare("c", 2), bare("e", 3), bare("d", 3))
        plan = Plan(web, waits=(("b", "a", 1), ("c", "b", 3), ("d", "c", 0), ("e", "b", 0)))
        due = (("a", "b", -1), ("b", "e", 0), ("e", "d", 0))
        self.assertEqual([follows(plan, ("d", "a", 1)), follows(plan, ("d", "a", 3))], [due, due])
        self.assertEqual(follows(plan, ("d", "a", 4)), (("a", "b", -1), ("b", "c", -3), ("c", "d", 0)))
        self.assertIsNone(follows(plan, ("d", "a", 0)))

    def test_random_plans(self):
        rng = rng_of(201)
        told = []
        for _ in range(60):
            plan = lively(rng, jobs=rng.randint(1, 5), buffers=0)
            waits = list(plan.waits)
            waits += [(rng.choice(plan.web.jobs), rng.choice(plan.web.jobs), rng.randint(0, 4)) for _ in range(6)]
            for wait in waits:
                told.append(follows(plan, wait))
                self.assertEqual(told[-1], slow_way(plan, wait))
        self.assertTrue(60 < told.count(None) < len(told) - 60)

    def test_values_of_any_kind(self):
        for value in (*ODD, ("a", "b"), ("a", "b", True), ("a", "b", 5), ("a", "b", -1), ("q", "a", 0), ("a", "q", 0),
                      ["a", "b", 0], ("a", "b", 0, 0), ("r", "a", 0), (["a"], "b", 0)):
            self.assertEqual(caught(follows, P1, value), ("InvalidPlan", "waits", 0))
            # a standstill goes ahead
            self.assertEqual(caught(follows, STILL, value)[0], "Standstill")

    def test_standstill(self):
        for plan in (STILL, Plan(E1, waits=(("b", "b", 0),))):
            for call in (lambda: follows(plan, ("d", "a", 0)), lambda: least_waits(plan), lambda: list(savings(plan))):
                with self.assertRaises(Standstill) as error:
                    call()
                self.assertTrue(oracles.is_ring(plan, error.exception.ring))


class TestLeastWaits(unittest.TestCase):
    def test_examples(self):
        self.assertEqual(least_waits(P1.with_wait(("e", "a", 0))), P1.waits)
        self.assertEqual(least_waits(plan=P2), P2.waits)
        self.assertEqual(least_waits(Plan(E1)), ())

    def test_random_plans(self):
        rng = rng_of(202)
        dropped = 0
        for _ in range(80):
            plan = lively(rng, jobs=rng.randint(1, 5), buffers=0, waits=rng.randint(0, 9))
            before = plan.twin()
            found = least_waits(plan)
            self.assertEqual(found, tuple(wait for wait in plan.waits if slow_way(plan, wait) is None))
            left = Plan(plan.web, rows=plan.rows, waits=found, depth=plan.depth)
            # no lead changes, and nothing is left that follows
            self.assertEqual(oracles.leads(left), oracles.leads(plan))
            self.assertEqual(least_waits(left), found)
            for wait in found:
                self.assertNotEqual(oracles.leads(left.without_wait(wait)), oracles.leads(left))
            dropped += len(plan.waits) - len(found)
            self.assertEqual(plan, before)
        self.assertTrue(dropped > 100)

    def test_contained_in_each_set_with_these_leads(self):
        rng = rng_of(203)
        for _ in range(12):
            plan = lively(rng, jobs=3, buffers=0, waits=6)
            found = least_waits(plan)
            for many in range(len(plan.waits) + 1):
                for waits in itertools.combinations(plan.waits, many):
                    other = Plan(plan.web, rows=plan.rows, waits=waits, depth=plan.depth)
                    if oracles.leads(other) == oracles.leads(plan):
                        self.assertTrue(set(found) <= set(waits))

    def test_many_jobs(self):
        web = Web(*many_jobs(16, 4))
        waits = [(job, of, back) for job in web.jobs for of in web.jobs if job > of for back in range(5)]
        plan = Plan(web, waits=waits, depth=1)
        found = least_waits(plan)
        left = Plan(web, waits=found, depth=1)
        self.assertEqual([row[:3] for row in lead_table(left)], [row[:3] for row in lead_table(plan)])
        self.assertEqual([len(found), least_waits(left)], [15, found])

    def test_after_changes(self):
        plan = Plan(E2, waits=P2.waits)
        self.assertEqual(least_waits(plan), P2.waits)
        plan.depth = 1
        self.assertEqual(least_waits(plan), ())
        plan.depth = None
        plan.waits = (*P2.waits, ("v", "w", 2))
        self.assertEqual([least_waits(plan), follows(plan, ("v", "w", 2))], [P2.waits, (("w", "v", -1),)])
        plan.rows = {1: ("y", "t", "v")}
        self.assertEqual([follows(plan, ("w", "t", 1)), follows(plan, ("w", "t", 2))],
                         [None, (("t", "v", 0), ("v", "y", -1), ("y", "w", -1))])
        plan.waits = (("w", "y", 0), ("y", "w", 0))
        self.assertRaises(Standstill, least_waits, plan)


class TestNeededWaits(unittest.TestCase):
    def test_examples(self):
        self.assertEqual([needed_waits(E1), needed_waits(E2)], [(("d", "a", 0), ("f", "c", 0)), (("v", "w", 1),)])

    def test_rows_in_any_order(self):
        # t behind y contradicts their need
        with self.assertRaises(Standstill) as error:
            needed_waits(E2, rows={1: ("y", "t", "v")})
        self.assertEqual(sorted(error.exception.ring), [("t", "y", 0), ("y", "t", 0)])
        self.assertEqual(needed_waits(web=E2, rows={1: ["t", "v", "y"]}, depth=None), (("v", "w", 1),))
        # c ends before a, and d waits for a: so f is behind c
        self.assertEqual(needed_waits(E1, rows={0: ("c", "a", "b")}), (("d", "a", 0),))
        # d is behind f, f waits for c, and c is behind a
        self.assertEqual(needed_waits(E1, rows={1: ("e", "f", "d")}), (("f", "c", 0),))
        self.assertEqual(needed_waits(E1, rows={0: ("a", "c", "b"), 1: ("e", "d", "f")}),
                         (("d", "a", 0), ("f", "c", 0)))

    def test_depths(self):
        # v reads h of the frame before: a depth of 1 is such a wait already
        self.assertEqual([needed_waits(E2, depth=depth) for depth in (None, 1, 2, 3, 4)],
                         [(("v", "w", 1),), (), (("v", "w", 1),), (("v", "w", 1),), (("v", "w", 1),)])
        web = Web(("a", 0, (("make", "p"), ("make", "q"), ("make", "r"))),
                  ("b", 1, (("read", "p", 3), ("read", "q", 2), ("read", "r", 1))))
        self.assertEqual([needed_waits(web, depth=depth) for depth in (None, 1, 2)],
                         [(("b", "a", 1),), (), (("b", "a", 1),)])

    def test_random_webs(self):
        rng = rng_of(204)
        for _ in range(80):
            web = random_web(rng)
            rows = {queue: [job for job in web.jobs if web.queue_of(job) == queue] for queue in web.queues}
            for row in rows.values():
                if rng.random() < 0.3:
                    rng.shuffle(row)
            depth = rng.choice((None, 1, 2, 3, 4))
            waits = [(after, before, back) for before, after, back in oracles.needs(web)]
            full = Plan(web, rows=rows, waits=waits, depth=depth)
            if oracles.stands_still(full):
                with self.assertRaises(Standstill) as error:
                    needed_waits(web, rows=rows, depth=depth)
                self.assertTrue(oracles.is_ring(full, error.exception.ring))
                continue
            found = needed_waits(web, rows=rows, depth=depth)
            self.assertEqual(found, tuple(wait for wait in full.waits if slow_way(full, wait) is None))
            plan = Plan(web, rows=rows, waits=found, depth=depth)
            self.assertEqual(unmet(plan), ())
            for wait in found:
                # a wait less leaves some need unmet
                self.assertNotEqual(unmet(plan.without_wait(wait)), ())

    def test_errors_in_their_order(self):
        for rows, depth, error in (
            (7, 9, ("InvalidPlan", "rows", -1)), ([], 9, ("InvalidPlan", "rows", -1)),
            ({2: ()}, 9, ("InvalidPlan", "rows", -1)), ({True: ("v", "t", "y")}, 9, ("InvalidPlan", "rows", -1)),
            ({1: ("v",), 0: ()}, 9, ("InvalidPlan", "rows", 0)), ({1: ("y", "t")}, 9, ("InvalidPlan", "rows", 1)),
            ({1: ("y", "t", "v")}, 9, ("InvalidPlan", "depth", -1)), (None, 0, ("InvalidPlan", "depth", -1)),
            (None, True, ("InvalidPlan", "depth", -1)), (None, "1", ("InvalidPlan", "depth", -1)),
        ):
            for call in (needed_waits, planned):
                self.assertEqual(caught(call, E2, rows=rows, depth=depth), error)
        for call in (needed_waits, planned):
            with self.assertRaises(Standstill):
                call(E2, rows={1: ("y", "t", "v")})

    def test_a_ring_of_needs_and_rows(self):
        web = Web(("a", 0, (("make", "p"),)), ("b", 1, (("read", "p", 0), ("make", "q"))),
                  ("c", 0, (("read", "q", 0),)))
        self.assertEqual(needed_waits(web), (("b", "a", 0), ("c", "b", 0)))
        with self.assertRaises(Standstill) as error:
            needed_waits(web, rows={0: ("c", "a")}, depth=3)
        self.assertEqual(set(error.exception.ring), {("a", "b", 0), ("b", "c", 0), ("c", "a", 0)})


class TestPlanned(unittest.TestCase):
    def test_example(self):
        plan = planned(E2)
        self.assertEqual([plan.sharing, plan.depth, plan.waits, plan.rows],
                         [((3, (("h", 0), ("x", 2))),), 2, (("v", "w", 1),), Plan(E2).rows])

    def test_rows_and_depth(self):
        plan = planned(web=E2, rows={1: ("t", "v", "y")}, depth=4)
        self.assertEqual([plan.rows, plan.depth], [{0: ("w",), 1: ("t", "v", "y")}, 4])
        self.assertEqual(verdict(plan)[0], "right")
        self.assertEqual(planned(E1, depth=1).waits, (("d", "a", 0), ("f", "c", 0)))

    def test_not_shareable(self):
        # without a depth nothing holds w back
        self.assertEqual(caught(planned, E2, depth=None), ("NotShareable", "h", "v"))
        web = Web(("w", 0, (("keep", "h"),)), ("v", 1, (("read", "h", 1),)))
        self.assertEqual(caught(planned, web), ("NotShareable", "h", "v"))
        self.assertEqual(fewest_slots(Plan(web, waits=needed_waits(web, depth=2), depth=2))[0], "kept")
        self.assertEqual(caught(planned, web, depth=None), ("NotShareable", "h", "v"))
        own = Web(("w", 0, (("keep", "h"), ("read", "h", 1))))
        self.assertEqual(caught(planned, own), ("NotShareable", "h", "w"))

    def test_random_webs(self):
        rng = rng_of(205)
        words = []
        for _ in range(160):
            web = random_web(rng, buffers=rng.randint(0, 5))
            depth = rng.choice((None, 1, 2, 3, 4))
            waits = needed_waits(web, depth=depth)
            told = fewest_slots(Plan(web, waits=waits, depth=depth))
            words.append(told[0])
            if told[0] != "slots":
                self.assertEqual(caught(planned, web, depth=depth), ("NotShareable", *told[1:3]))
                continue
            plan = planned(web, depth=depth)
            self.assertEqual(plan, Plan(web, waits=waits, depth=depth, sharing=told[2]))
            # no need unmet, no clash, as many slots as are told
            self.assertEqual([list(faults(plan)), unmet(plan)], [[], ()])
            self.assertEqual(sum(count for count, _ in plan.sharing), told[1])
            self.assertEqual(planned(web, depth=depth), plan)
        self.assertTrue(min(words.count(word) for word in ("slots", "endless", "kept")) > 3)

    def test_rows_that_the_caller_changes(self):
        rows = {1: ["t", "v", "y"]}
        plan = planned(E2, rows=rows)
        rows[1].reverse()
        rows[0] = ()
        self.assertEqual(plan.rows, {0: ("w",), 1: ("t", "v", "y")})


class TestSavings(unittest.TestCase):
    def test_example(self):
        self.assertEqual(list(savings(P1)), [(2, wait) for wait in (
            ("b", "d", 0), ("b", "e", 0), ("c", "d", 0), ("c", "e", 0), ("d", "b", 0), ("d", "c", 0), ("e", "b", 0),
            ("e", "c", 0),
        )])
        self.assertEqual(list(savings(plan=Plan(E1, waits=P1.waits, sharing=((3, (("p", 0), ("r", 1), ("s", 2))),)))),
                         list(savings(P1)))

    def test_plans_that_no_sharing_fits(self):
        plan = Plan(E2, waits=(("v", "w", 1),))
        self.assertEqual(fewest_slots(plan)[0], "endless")
        found = list(savings(plan))
        self.assertEqual(found, slow_savings(plan))
        self.assertIn((2, ("w", "y", 1)), found)
        kept = Web(("w", 0, (("keep", "h"),)), ("v", 1, (("read", "h", 1),)))
        self.assertEqual(list(savings(Plan(kept))), [(1, ("w", "v", 0))])
        self.assertEqual(list(savings(Plan(kept, waits=(("w", "v", 0),)))), [])

    def test_random_plans(self):
        rng = rng_of(206)
        many = []
        while len(many) < 40:
            plan = lively(rng, jobs=rng.randint(1, 5), buffers=rng.randint(0, 4), waits=rng.randint(0, 4))
            before = plan.twin()
            many.append(len(slow_savings(plan)))
            self.assertEqual(list(savings(plan)), slow_savings(plan))
            self.assertEqual(plan, before)
        self.assertTrue(many.count(0) < 25)

    def test_eight_jobs_and_ten_buffers(self):
        names = ["b" + chr(97 + at) for at in range(10)]
        jobs = [(bare(job, at % 4)[0], at % 4, [("make", names[at])]) for at, job in enumerate("abcdefgh")]
        for at in range(8, 10):
            jobs[0][2].append(("make", names[at]))
        for at, name in enumerate(names):
            jobs[(at * 3 + 1) % 8][2].append(("read", name, 1 + at % 3))
        plan = Plan(Web(*[(name, queue, tuple(uses)) for name, queue, uses in jobs]), depth=2)
        many = fewest_slots(plan)[1]
        found = list(savings(plan))
        self.assertTrue(found)
        for slots, wait in [found[0], found[len(found) // 2], found[-1]]:
            self.assertTrue(slots < many)
            self.assertEqual(fewest_slots(plan.with_wait(wait))[1], slots)
        self.assertEqual(found, sorted(set(found)))

    def test_too_many_jobs(self):
        nine = Plan(Web(*many_jobs(9)))
        self.assertEqual(caught(lambda: list(savings(nine))), ("TooMany", 8))
        self.assertEqual(caught(lambda: next(savings(nine))), ("TooMany", 8))
        self.assertEqual(list(savings(Plan(Web(*many_jobs(8))))), [])
        nine.waits = (("ja", "ja", 0),)
        self.assertEqual(caught(lambda: list(savings(nine))), ("Standstill", (("ja", "ja", 0),)))

    def test_several_at_once(self):
        first, second = savings(P1), savings(P1)
        pairs = [next(first), next(first), next(second)]
        third = savings(Plan(E2, waits=(("v", "w", 1),)))
        next(third)
        self.assertEqual([*pairs[:2], *first], list(savings(P1)))
        self.assertEqual([pairs[2], *second], list(savings(P1)))

    def test_after_changes(self):
        plan = Plan(E1, waits=P1.waits)
        list(savings(plan))
        plan.waits = (*P1.waits, ("b", "d", 0))
        self.assertEqual(list(savings(plan)), slow_savings(plan))
        plan.depth = 1
        plan.rows = {1: ("e", "d", "f")}
        self.assertEqual(list(savings(plan)), slow_savings(plan))
        plan.waits = STILL.waits
        self.assertRaises(Standstill, list, savings(plan))


if __name__ == "__main__":
    unittest.main()
