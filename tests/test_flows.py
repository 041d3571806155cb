import unittest

from everframe.flows import flow
from everframe.plans import Plan
from everframe.webs import Web
from tests import oracles
from tests.samples import E1, E2, P1, P2, bare, many_jobs, random_plan, rng_of


class TestFlow(unittest.TestCase):
    def check(self, plan, still):
        found = flow(plan)
        self.assertIsInstance(found, tuple)
        if still:
            self.assertEqual((len(found), found[0]), (2, "ring"))
            self.assertTrue(oracles.is_ring(plan, found[1]), found)
            return
        word, starts, period = found
        self.assertEqual((word, len(starts)), ("timetable", len(plan.web)))
        self.assertIsInstance(starts, tuple)
        self.assertTrue(1 <= period <= 16)
        self.assertTrue(all(start >= 0 for start in starts))
        start = dict(zip(plan.web.jobs, starts))
        for before, after, lead in plan.ties:
            self.assertLessEqual(start[before] + 1 + period * lead, start[after])
        self.assertEqual(flow(plan), found)

    def test_examples(self):
        self.check(P1, False)
        self.check(P2, False)
        self.check(P1.with_wait(("a", "f", 0)), True)
        self.assertEqual([flow(plan=P1)[0], flow(P1.with_wait(("a", "f", 0)))[0]], ["timetable", "ring"])

    def test_one_job(self):
        web = Web(bare("a", 0))
        self.assertEqual(flow(Plan(web, waits=[("a", "a", 0)])), ("ring", (("a", "a", 0),)))
        self.check(Plan(web), False)
        self.check(Plan(web, waits=[("a", "a", 1)]), False)

    def test_rings(self):
        self.check(Plan(E1, waits=[("b", "b", 0)]), True)
        self.check(Plan(E1, waits=[("a", "b", 0)]), True)
        self.check(Plan(E1, waits=[("a", "b", 1)]), False)
        self.check(Plan(E1, waits=[("d", "c", 0), ("a", "f", 0)]), True)
        self.check(Plan(E1, rows={0: ["b", "a", "c"]}, waits=[("b", "a", 0)]), True)
        self.assertEqual(set(flow(Plan(E1, waits=[("c", "d", 0), ("e", "c", 0), ("d", "e", 0)]))[1]),
                         {("d", "e", 0), ("e", "d", 0)})

    def test_after_changes(self):
        plan = Plan(E2)
        plan.waits = [("v", "y", 0)]
        self.check(plan, True)
        plan.rows = {1: ["t", "y", "v"]}
        self.check(plan, False)
        plan.depth = 1
        self.check(plan, False)

    def test_random_plans(self):
        rng = rng_of(13)
        seen = []
        for _ in range(300):
            plan = random_plan(rng)
            still = oracles.stands_still(plan)
            self.check(plan, still)
            seen.append(still)
        self.assertTrue(40 < sum(seen) < 260)

    def test_sixteen_jobs(self):
        rng = rng_of(14)
        for queues in (1, 2, 3, 4):
            web = Web(*many_jobs(16, queues))
            self.check(Plan(web), False)
            self.check(Plan(web, depth=1), False)
            around = [(web.jobs[at], web.jobs[at - 1], 0) for at in range(1, 16)]
            self.check(Plan(web, waits=around), False)
            self.check(Plan(web, waits=[*around, ("ja", "jp", 1)]), False)
            self.check(Plan(web, waits=[*around, ("ja", "jp", 0)]), True)
            for _ in range(20):
                plan = random_plan(rng, web, waits=rng.choice((2, 4, 8, 30)))
                self.check(plan, oracles.stands_still(plan))


if __name__ == "__main__":
    unittest.main()
