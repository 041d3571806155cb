import unittest

from everframe.leading import closed_lot, lead, lead_table, way
from everframe.marks import NEVER, SPAN, marks_of, starts_of
from everframe.orders import ties_of
from everframe.plans import Plan
from everframe.webs import Web
from tests import oracles
from tests.samples import E1, E2, P1, P2, bare, many_jobs, random_plan, random_web, rng_of


def first_steps(plan, of):
    """For each queue the number of the first step of its row that comes behind the step (of, 17), without its frames."""
    found = {}
    behind = oracles.reached(oracles.later(plan, 36), (of, 17))
    for queue, row in plan.rows.items():
        found[queue] = min([SPAN * (frame - 17) + row.index(job) for job, frame in behind if job in row], default=None)
    return found


def crossing(queues):
    """Sixteen jobs on some queues, each row of which waits for the next one, far back at the end."""
    web = Web(*many_jobs(16, queues))
    rows = list(Plan(web).rows.values())
    waits = [(rows[at][0], rows[at - 1][-1], 4) for at in range(len(rows)) if len(rows) > 1]
    return Plan(web, waits=waits)


class TestStarts(unittest.TestCase):
    def test_examples(self):
        self.assertEqual(starts_of(P1.rows, P1.ties), {"a": 0, "b": 1, "c": 2, "d": 1, "e": 2, "f": 3})
        self.assertEqual(starts_of(P2.rows, P2.ties), {"w": 0, "v": 0, "t": 1, "y": 2})

    def test_a_standstill_has_none(self):
        for plan in (
            Plan(E1, waits=(("d", "a", 0), ("a", "d", 0))), Plan(E2, waits=(("w", "w", 0),)),
            Plan(E2, waits=(("t", "y", 0),)), Plan(Web(bare("a", 0)), waits=(("a", "a", 0),)),
            Plan(Web(*many_jobs(16)), waits=(("ja", "jp", 0),)),
        ):
            self.assertEqual([starts_of(plan.rows, plan.ties), plan.starts()], [{}, {}])
        for plan in (
            Plan(Web(bare("a", 0))), Plan(Web(*many_jobs(16))), Plan(Web(*many_jobs(16)), waits=(("ja", "jp", 1),)),
            Plan(E2, waits=(("w", "w", 1),)),
        ):
            self.assertEqual(sorted(starts_of(plan.rows, plan.ties)), sorted(plan.web.jobs))

    def test_the_longest_ways(self):
        # the names descend along the row, so that each round settles one job
        jobs = [bare("j" + chr(97 + at), 0) for at in range(16)]
        plan = Plan(Web(*jobs), rows={0: [job[0] for job in jobs[::-1]]})
        self.assertEqual([plan.starts()["ja"], plan.starts()["jp"]], [15, 0])

    def test_random_plans(self):
        rng = rng_of(411)
        seen = []
        for _ in range(300):
            plan = random_plan(rng)
            starts = starts_of(plan.rows, plan.ties)
            seen.append(bool(starts))
            self.assertEqual(bool(starts), not oracles.stands_still(plan))
            for job in starts:
                ahead = [starts[before] for before, after, total in plan.ties if after == job and total == 0]
                self.assertEqual(starts[job], max([one + 1 for one in ahead], default=0))
        self.assertTrue(min(seen.count(True), seen.count(False)) > 50)


class TestMarks(unittest.TestCase):
    def check(self, plan):
        marks = marks_of(plan.rows, plan.ties, starts_of(plan.rows, plan.ties))
        for queue, row in plan.rows.items():
            self.assertEqual([marks.spot[job] for job in row], [(queue, at) for at in range(len(row))])
        leads = oracles.leads(plan)
        for of in plan.web.jobs:
            first = first_steps(plan, of)
            for queue in plan.rows:
                mark = marks.behind[queue][of]
                self.assertEqual(None if mark >= NEVER else mark, first[queue], (str(plan), of, queue))
            for job in plan.web.jobs:
                total = leads.get((of, job))
                self.assertEqual(marks.lead(of, job), total)
                for back in range(-4, 18):
                    self.assertEqual(marks.follows(of, job, back), total is not None and total >= -back)

    def test_examples(self):
        for plan in (P1, P2, Plan(E1), Plan(E2, depth=4), Plan(Web(bare("a", 3)))):
            self.check(plan)
        marks = P2.marks()
        self.assertEqual([marks.lead("v", "w"), marks.lead("w", "v"), marks.behind[0]["y"]], [-1, -1, SPAN])

    def test_long_rows_and_far_leads(self):
        for queues in (1, 2, 3, 4):
            self.check(crossing(queues))
        self.check(Plan(Web(*many_jobs(16, 4)), depth=4))
        # four rows, each of which waits four frames back for the one before: a lead of -12 and less
        web = Web(*[bare(name, at) for at, name in enumerate("abcd")])
        plan = Plan(web, waits=(("b", "a", 4), ("c", "b", 4), ("d", "c", 4)))
        self.assertEqual([lead(plan, "a", "d"), lead(plan, "d", "a"), lead(plan, "a", "a")], [-12, None, -1])
        self.check(plan)

    def test_random_plans(self):
        rng = rng_of(412)
        tried = 0
        while tried < 120:
            plan = random_plan(rng, waits=rng.choice((None, 0, 12)))
            if not oracles.stands_still(plan):
                tried += 1
                self.check(plan)

    def test_many_jobs(self):
        rng = rng_of(413)
        tried = 0
        while tried < 12:
            web = random_web(rng, jobs=16, buffers=3)
            plan = random_plan(rng, web, waits=rng.choice((3, 6)))
            if not oracles.stands_still(plan):
                tried += 1
                self.check(plan)

    def test_one_more_wait(self):
        rng = rng_of(414)
        tried = 0
        while tried < 150:
            plan = random_plan(rng)
            wait = (rng.choice(plan.web.jobs), rng.choice(plan.web.jobs), rng.randint(0, 4))
            if not plan.starts() or not plan.with_wait(wait).starts():
                continue
            tried += 1
            more, whole = plan.marks().with_one_more(*wait), plan.with_wait(wait).marks()
            for of in plan.web.jobs:
                for job in plan.web.jobs:
                    self.assertEqual(more.lead(of, job), whole.lead(of, job), (str(plan), wait))


class TestKept(unittest.TestCase):
    """That what a plan keeps of its leads belongs to it as it is."""

    def told(self, plan):
        jobs = plan.web.jobs
        return [(lead(plan, of, job), way(plan, of, job), closed_lot(plan, of, 2, 3)) for of in jobs for job in jobs]

    def test_after_each_change(self):
        rng = rng_of(415)
        for _ in range(40):
            plan = random_plan(rng)
            others = [random_plan(rng, plan.web) for _ in range(3)]
            for other in others:
                for name in ("rows", "waits", "depth", "sharing"):
                    twin = plan.twin()
                    before = (plan.ties, plan.starts())
                    setattr(plan, name, getattr(other, name))
                    fresh = Plan(plan.web, rows=plan.rows, waits=plan.waits, depth=plan.depth, sharing=plan.sharing)
                    self.assertEqual([plan.starts(), plan.ties], [fresh.starts(), oracles.ties(plan)])
                    if plan.starts():
                        self.assertEqual([lead_table(plan), self.told(plan)], [lead_table(fresh), self.told(fresh)])
                    # the twin stays what it was
                    self.assertEqual((twin.ties, twin.starts()), before)

    def test_an_error_changes_nothing(self):
        plan = Plan(E2, waits=P2.waits)
        marks = plan.marks()
        for name in ("rows", "waits", "depth", "sharing"):
            self.assertRaises(ValueError, setattr, plan, name, 7)
        self.assertIs(plan.marks(), marks)
        self.assertEqual([plan, plan.ties], [Plan(E2, waits=P2.waits), P2.ties])

    def test_plans_made_from_others(self):
        plan = Plan(E1, waits=P1.waits, depth=3)
        plan.marks()
        more = plan.with_wait(("e", "b", 1))
        less = more.without_wait(("f", "c", 0))
        for one in (plan, more, less, plan.twin(), more.with_wait(("e", "b", 0))):
            self.assertEqual([ties_of(one.rows, one.waits, one.depth), one.ties], [oracles.ties(one)] * 2)
            leads = {(of, job): total for of, job, total, _, _ in lead_table(one)}
            self.assertEqual(leads, oracles.leads(one))


if __name__ == "__main__":
    unittest.main()
