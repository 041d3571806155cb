import unittest

from everframe.errors import NoJob, Standstill
from everframe.leading import closed_lot, lead, lead_table, unmet, way
from everframe.leads import Lead
from everframe.needs import needs
from everframe.plans import Plan
from everframe.webs import Web
from tests import oracles
from tests.samples import E1, E2, ODD, P1, P2, bare, many_jobs, random_plan, rng_of

STILL = Plan(E1, waits=(("d", "a", 0), ("a", "d", 0)))
SELF = Plan(E1, waits=(("b", "b", 0),))


def lead_of_way(ties):
    return sum(tie[2] for tie in ties)


class TestLead(unittest.TestCase):
    def test_examples(self):
        self.assertEqual([lead(P2, "v", "w"), lead(P2, "t", "w"), lead(P2, "w", "w")], [-1, -1, -1])
        self.assertEqual([lead(plan=P2, of="w", job="v"), lead(P2, "v", "t")], [-1, 0])
        loose = Plan(E2)
        self.assertIsNone(lead(loose, "w", "v"))
        self.assertEqual([lead(loose, "w", "w"), lead(loose, "y", "v"), lead(loose, "v", "y")], [-1, -1, 0])

    def test_least_lead(self):
        # each of four queues is reached by waits with 4 back and from the end of its row
        web = Web(*many_jobs(8, 4))
        waits = [("jf", "ja", 4), ("jg", "jb", 4), ("jh", "jc", 4)]
        self.assertEqual(lead(Plan(web, waits=waits), "je", "jd"), -16)
        self.assertIsNone(lead(Plan(web, waits=waits), "jd", "je"))

    def test_random_plans(self):
        rng = rng_of(5)
        for _ in range(150):
            plan = random_plan(rng)
            if oracles.stands_still(plan):
                with self.assertRaises(Standstill):
                    lead(plan, plan.web.jobs[0], plan.web.jobs[0])
                continue
            expected = oracles.leads(plan)
            for of in plan.web.jobs:
                self.assertEqual(lead(plan, of, of), -1)
                for job in plan.web.jobs:
                    self.assertEqual(lead(plan, of, job), expected.get((of, job)))

    def test_after_changes(self):
        plan = Plan(E2)
        self.assertIsNone(lead(plan, "w", "v"))
        plan.waits = [("v", "w", 1)]
        self.assertEqual([lead(plan, "w", "v"), way(plan, "w", "v")], [-1, (("w", "v", -1),)])
        plan.depth = 3
        self.assertEqual([lead(plan, "y", "w"), unmet(plan)], [-3, ()])
        plan.set_rows({1: ("v", "y", "t")})
        self.assertEqual([lead(plan, "t", "y"), unmet(plan)], [-1, (("t", "y", 0),)])
        plan.set_waits([("v", "w", 0), ("w", "v", 0)])
        for call in (lead_table, unmet):
            with self.assertRaises(Standstill):
                call(plan)
        plan.set_waits(())
        plan.set_depth(None)
        self.assertEqual([lead(plan, "w", "v"), unmet(plan)], [None, (("t", "y", 0), ("w", "v", 1))])


class TestWay(unittest.TestCase):
    def test_examples(self):
        self.assertEqual(way(P2, "v", "w"), (("v", "t", 0), ("t", "y", 0), ("y", "w", -1)))
        self.assertEqual(way(plan=P2, of="w", job="w"), (("w", "w", -1),))
        self.assertIsNone(way(Plan(E2), "w", "v"))

    def test_fewest_ties(self):
        # a to d: b, c is longer than the wait, which has the same lead
        web = Web(bare("a", 0), bare("b", 0), bare("c", 0), bare("d", 0))
        self.assertEqual(len(way(Plan(web), "a", "d")), 3)
        self.assertEqual(way(Plan(web, waits=[("d", "a", 0)]), "a", "d"), (("a", "d", 0),))
        self.assertEqual(len(way(Plan(web, waits=[("d", "a", 1)]), "a", "d")), 3)
        self.assertEqual(way(Plan(web), "a", "a")[-1], ("d", "a", -1))

    def test_the_least_of_several(self):
        web = Web(bare("m", 0), bare("a", 1), bare("b", 2), bare("z", 3))
        waits = [("b", "m", 0), ("a", "m", 1), ("z", "b", 1), ("z", "a", 0)]
        self.assertEqual(way(Plan(web, waits=waits), "m", "z"), (("m", "a", -1), ("a", "z", 0)))
        waits = [("b", "m", 0), ("a", "m", 1), ("z", "b", 0), ("z", "a", 0)]
        self.assertEqual(way(Plan(web, waits=waits), "m", "z"), (("m", "b", 0), ("b", "z", 0)))

    def test_random_plans(self):
        rng = rng_of(6)
        for _ in range(150):
            plan = random_plan(rng, waits=rng.randint(0, 4))
            if len(plan.web) > 5 or oracles.stands_still(plan):
                continue
            for of in plan.web.jobs:
                for job in plan.web.jobs:
                    ways = oracles.all_ways(plan, of, job, 5)
                    expected = min(ways, key=lambda one: (-lead_of_way(one), len(one), one), default=None)
                    self.assertEqual(way(plan, of, job), expected)


class TestTable(unittest.TestCase):
    def check(self, plan):
        table = lead_table(plan)
        pairs = [(of, job) for of, job, _, _, _ in table]
        entries = {(of, job): (total, steps) for of, job, total, steps, _ in table}
        jobs = sorted(plan.web.jobs)
        self.assertEqual(pairs, [(of, job) for of in jobs for job in jobs if lead(plan, of, job) is not None])
        for of, job, total, steps, last in table:
            self.assertEqual(total, lead(plan, of, job))
            self.assertEqual(steps, len(way(plan, of, job)))
            self.assertIn(last, plan.ties)
            self.assertEqual(last[1], job)
            if steps == 1:
                self.assertEqual((last[0], last[2]), (of, total))
            else:
                self.assertEqual(entries[of, last[0]], (total - last[2], steps - 1))

    def test_examples(self):
        for plan in (P1, P2, Plan(E1), Plan(E2), Plan(E2, depth=1)):
            self.check(plan)
        self.assertEqual(lead_table(plan=Plan(Web(bare("a", 0)))), (("a", "a", -1, 1, ("a", "a", -1)),))

    def test_random_plans(self):
        rng = rng_of(7)
        for _ in range(100):
            plan = random_plan(rng)
            if not oracles.stands_still(plan):
                self.check(plan)

    def test_sixteen_jobs(self):
        rng = rng_of(8)
        for queues in (1, 2, 3, 4):
            web = Web(*many_jobs(16, queues))
            self.check(Plan(web))
            done = 0
            while done < 3:
                plan = random_plan(rng, web, waits=rng.choice((2, 4, 8, 30)))
                if not oracles.stands_still(plan):
                    self.check(plan)
                    done += 1
                else:
                    plan.waits = [(job, of, back + 1) for job, of, back in plan.waits if back < 4]
                    self.check(plan)


class TestUnmet(unittest.TestCase):
    def test_examples(self):
        self.assertEqual([unmet(P1), unmet(plan=P2)], [(), ()])
        self.assertEqual(unmet(Plan(E1)), (("a", "d", 0), ("c", "f", 0)))
        self.assertEqual(unmet(Plan(E2)), (("w", "v", 1),))
        self.assertEqual(unmet(Plan(E2, waits=[("v", "w", 2)])), (("w", "v", 1),))
        self.assertEqual(unmet(Plan(E2, waits=[("v", "w", 0)])), ())
        self.assertEqual(unmet(Plan(E1, rows={0: ("b", "a", "c")})), (("a", "b", 0), ("a", "d", 0), ("c", "f", 0)))

    def test_random_plans(self):
        rng = rng_of(9)
        seen = set()
        for _ in range(200):
            plan = random_plan(rng)
            if oracles.stands_still(plan):
                continue
            leads = oracles.leads(plan)
            expected = [one for one in needs(plan.web) if leads.get(one[:2], -99) < -one[2]]
            self.assertEqual(unmet(plan), tuple(expected))
            seen.add(len(expected) > 0)
        self.assertEqual(len(seen), 2)


class TestClosedLot(unittest.TestCase):
    def test_example(self):
        self.assertEqual(closed_lot(P2, "v", 1, 2), (("t", 0), ("v", 0), ("w", 0), ("w", 1), ("y", 0)))
        self.assertEqual(closed_lot(plan=P2, of="v", frame=1, upto=0), (("t", 0), ("v", 0), ("w", 0), ("y", 0)))
        self.assertEqual(closed_lot(P2, "v", 0, 0), (("w", 0),))
        self.assertEqual(closed_lot(P2, "w", 0, 3), (("t", 0), ("v", 0), ("y", 0)))

    def test_jobs_without_a_way(self):
        loose = Plan(E2)
        self.assertEqual(closed_lot(loose, "w", 0, 1), (("t", 0), ("t", 1), ("v", 0), ("v", 1), ("y", 0), ("y", 1)))
        self.assertEqual(len(closed_lot(loose, "w", 300, 300)), 300 + 3 * 301)
        self.assertEqual(closed_lot(Plan(Web(bare("a", 0))), "a", 0, 300), ())
        self.assertEqual(len(closed_lot(Plan(Web(bare("a", 0))), "a", 300, 300)), 300)

    def test_random_plans(self):
        rng = rng_of(10)
        for _ in range(60):
            plan = random_plan(rng)
            if oracles.stands_still(plan):
                continue
            behind = oracles.later(plan, 12)
            for of in plan.web.jobs:
                frame, upto = rng.randint(0, 6), rng.randint(0, 11)
                not_yet = oracles.reached(behind, (of, frame)) | {(of, frame)}
                expected = sorted(step for step in behind if step not in not_yet and step[1] <= upto)
                self.assertEqual(closed_lot(plan, of, frame, upto), tuple(expected))

    def test_sixteen_jobs(self):
        web = Web(*many_jobs(16, 4))
        plan = Plan(web, depth=4)
        lot = closed_lot(plan, "ja", 300, 300)
        self.assertEqual(sum(job == "ja" for job, _ in lot), 300)
        self.assertEqual(list(lot), sorted(set(lot)))
        # all other queues may be ahead by four frames, so up to the last one
        self.assertEqual(sum(job == "jb" for job, _ in lot), 301)


class TestErrors(unittest.TestCase):
    def test_unknown_jobs(self):
        for value in (*ODD, "zz", "r", Lead(), P1):
            for call in (lead, way):
                for parts in ((value, "a"), ("a", value), (value, "zzz")):
                    for plan in (P1, STILL):
                        with self.assertRaises(NoJob) as error:
                            call(plan, *parts)
                        self.assertIs(error.exception.name, value)
            with self.assertRaises(NoJob) as error:
                closed_lot(STILL, value, 0, 0)
            self.assertIs(error.exception.name, value)

    def test_standstill(self):
        calls = (
            lambda plan: lead(plan, "a", "b"), lambda plan: way(plan, "a", "b"), lead_table, unmet,
            lambda plan: closed_lot(plan, "a", 1, 1),
        )
        for plan in (STILL, SELF, Plan(E1, waits=(("a", "c", 0),))):
            for call in calls:
                with self.assertRaises(Standstill) as error:
                    call(plan)
                self.assertTrue(oracles.is_ring(plan, error.exception.ring))

    def test_standstill_beside_jobs_that_go_on(self):
        # only e and f wait for each other; e itself is behind d
        plan = Plan(E1, waits=(("e", "f", 0),))
        with self.assertRaises(Standstill) as error:
            lead(plan, "a", "a")
        self.assertEqual(set(error.exception.ring), {("e", "f", 0), ("f", "e", 0)})


if __name__ == "__main__":
    unittest.main()
