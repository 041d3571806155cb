import unittest

from everframe.costs import clashes
from everframe.errors import Standstill
from everframe.leading import lead_table, unmet
from everframe.needs import needs
from everframe.plans import Plan
from everframe.runs import Run
from everframe.slots import fewest_slots
from everframe.verdictcheck import check_verdict
from everframe.verdicts import faults, verdict
from everframe.webs import Web
from tests import oracles
from tests.samples import C, E1, E2, G2, P1, P2, many_jobs, random_plan, random_sharing, random_web, rng_of

TIGHT = Plan(E1, waits=P1.waits, sharing=((1, (("r", 0), ("p", 0))), (1, (("s", 0),))))
STILL = Plan(E1, waits=(("d", "a", 0), ("a", "d", 0)))
# two kept buffers, a carried one and one that is made
MIXED = Web(
    ("k", 0, (("keep", "h"),)), ("i", 0, (("keep", "g"),)), ("c", 1, (("carry", "e"),)), ("m", 1, (("make", "f"),)),
    ("z", 2, (("read", "h", 0), ("read", "g", 0), ("read", "e", 1), ("read", "f", 0))),
)
# nobody but the maker reads the kept buffer
OWN = Web(("k", 0, (("keep", "h"), ("read", "h", 1))), ("m", 0, (("make", "x"),)), ("z", 0, (("read", "x", 0),)))
# one job makes two buffers
BOTH = Web(("w", 0, (("make", "s"), ("make", "r"))), ("v", 0, (("read", "r", 0), ("read", "s", 0))))


def with_needs(web, sharing=None, **named):
    """The plan that has a wait for each need."""
    waits = [(after, before, back) for before, after, back in needs(web)]
    return Plan(web, waits=[*waits, *named.pop("more", ())], sharing=sharing, **named)


class TestFaults(unittest.TestCase):
    def test_example(self):
        self.assertEqual(list(faults(TIGHT)), [("clash", "p", "r", 0)])
        self.assertEqual([list(faults(plan=P1)), list(faults(P2))], [[], []])

    def test_all_kinds_in_their_order(self):
        sharing = ((2, (("g", 0),)), (1, (("h", 0), ("f", 0), ("e", 0))))
        self.assertEqual(list(faults(Plan(MIXED, sharing=sharing))), [
            ("need", "c", "z", 1), ("need", "i", "z", 0), ("need", "k", "z", 0), ("need", "m", "z", 0),
            ("keep", "g"), ("keep", "h"),
            ("clash", "e", "e", 1), ("clash", "e", "f", 0), ("clash", "e", "h", 0), ("clash", "f", "f", 1),
            ("clash", "f", "h", 0), ("clash", "g", "g", 2), ("clash", "h", "h", 1),
        ])

    def test_keeps(self):
        # z is over before all others of the next frame, so nothing clashes in groups with one buffer
        tied = with_needs(MIXED, depth=1)
        one = tuple((1, ((name, 0),)) for name in "efgh")
        tied.sharing = (((2, (("e", 0),))), *one[1:])
        self.assertEqual(list(faults(tied)), [])
        tied.sharing = (((2, (("e", 0),))), one[1], (2, (("g", 1),)), one[3])
        self.assertEqual(list(faults(tied)), [("keep", "g")])
        tied.sharing = (((2, (("e", 0),))), one[1], (9, (("g", 0), ("h", 4))))
        self.assertEqual(list(faults(tied)), [("keep", "g"), ("keep", "h")])
        # a count above 1 is no fault of the others
        tied.sharing = ((3, (("e", 2),)), (7, (("f", 3),)), *one[2:])
        self.assertEqual(list(faults(tied)), [])

    def test_as_the_parts_tell_them(self):
        rng = rng_of(91)
        for _ in range(150):
            plan = random_plan(rng)
            if oracles.stands_still(plan):
                self.assertRaises(Standstill, list, faults(plan))
                continue
            kept = []
            for buffer in plan.web.buffers:
                is_kept = any(word == "keep" for _, _, word in plan.web.uses_of(buffer))
                if is_kept and (1, ((buffer, 0),)) not in plan.sharing:
                    kept.append(("keep", buffer))
            expected = [("need", *one) for one in unmet(plan)] + kept + [("clash", *one) for one in clashes(plan)]
            self.assertEqual(list(faults(plan)), expected)

    def test_standstill(self):
        told = faults(STILL)
        with self.assertRaises(Standstill) as error:
            next(told)
        self.assertTrue(oracles.is_ring(STILL, error.exception.ring))

    def test_several_at_once(self):
        plan = Plan(MIXED, sharing=((2, (("g", 0),)), (1, (("h", 0), ("f", 0), ("e", 0)))))
        rows = list(zip(faults(plan), faults(plan), faults(Plan(E1))))
        self.assertEqual([row[0] for row in rows], [row[1] for row in rows])
        self.assertEqual([row[2] for row in rows], list(faults(Plan(E1)))[:len(rows)])


class TestVerdict(unittest.TestCase):
    def check(self, plan, word=None):
        found = verdict(plan)
        self.assertIsInstance(found, tuple)
        self.assertEqual(len(found), 2)
        still = oracles.stands_still(plan)
        expected = "still" if still else "wrong" if list(faults(plan)) else "right"
        self.assertEqual(found[0], expected)
        if word is not None:
            self.assertEqual(found[0], word)
        if found[0] == "still":
            self.assertTrue(oracles.is_ring(plan, found[1]))
        if found[0] == "wrong" and len(found[1]) < 200:
            self.assertTrue(oracles.shows_fault(plan, found[1]), (str(plan), found))
        if found[0] == "right":
            self.assertEqual(found[1], lead_table(plan))
        self.assertIs(check_verdict(plan, found), True)
        self.assertEqual(verdict(plan), found)
        return found

    def test_examples(self):
        self.assertEqual(verdict(TIGHT), (
            "wrong", (("a", 0, False), ("b", 0, False), ("c", 0, False), ("d", 0, False)),
        ))
        self.assertEqual(verdict(plan=Plan(E1, waits=(("f", "c", 0), ("a", "f", 1)))), ("wrong", (("d", 0, False),)))
        word, ring = verdict(STILL)
        self.assertEqual([word, set(ring)], ["still", {("a", "d", 0), ("d", "a", 0)}])
        self.assertEqual(verdict(P1), ("right", lead_table(P1)))
        self.assertEqual(verdict(P2), ("right", lead_table(P2)))

    def test_still_ahead_of_wrong(self):
        for plan in (STILL, Plan(E2, waits=(("w", "w", 0),)), Plan(MIXED, waits=(("k", "i", 0),))):
            self.check(plan, "still")

    def test_each_need(self):
        # with all waits but one of those that a need gives
        for web in (E1, E2, MIXED, C):
            whole = with_needs(web, depth=1)
            whole.sharing = tuple((1 if name in "gh" else 4, ((name, 0),)) for name in web.buffers)
            for wait in whole.waits:
                plan = whole.without_wait(wait)
                plan.depth = None
                found = list(faults(plan))
                self.check(plan, "wrong" if found else "right")

    def test_need_of_an_update(self):
        web = Web(
            ("m", 0, (("make", "b"),)), ("x", 1, (("read", "b", 0),)), ("u", 2, (("update", "b"),)),
            ("z", 3, (("read", "b", 0),)),
        )
        whole = with_needs(web, more=(("m", "z", 1),))
        self.check(whole, "right")
        for wait in (("u", "x", 0), ("z", "u", 0), ("x", "m", 0)):
            self.check(whole.without_wait(wait), "wrong")
        # u waits for x, which waits for m
        self.check(whole.without_wait(("u", "m", 0)), "right")
        # u comes without x, which then finds what u wrote
        late = whole.without_wait(("u", "x", 0))
        self.assertEqual(list(faults(late))[0], ("need", "x", "u", 0))
        self.assertEqual(verdict(late)[1][-1], ("x", 0, False))

    def test_need_of_a_carry(self):
        web = Web(("c", 0, (("carry", "g"),)), ("u", 1, (("update", "g"),)), ("z", 1, (("read", "g", 0),)))
        plan = Plan(web, waits=(("u", "c", 0), ("c", "z", 3)), sharing=((4, (("g", 0),)),))
        self.assertEqual(list(faults(plan)), [("need", "u", "c", 1)])
        found = self.check(plan, "wrong")
        # it shows only if the carry is left out
        self.assertEqual(found[1][-1], ("c", 1, True))
        self.check(plan.with_wait(("c", "u", 1)), "right")

    def test_kept_buffers(self):
        tied = with_needs(MIXED, depth=1)
        right = ((2, (("e", 0),)), (1, (("f", 0),)), (1, (("g", 0),)), (1, (("h", 0),)))
        tied.sharing = right
        self.check(tied, "right")
        for groups in (
            (*right[:2], (2, (("g", 0),)), right[3]), (*right[:2], (200, (("g", 199),)), right[3]),
            (*right[:2], (2, (("g", 0), ("h", 1)))), (*right[:2], (1, (("g", 0), ("h", 0)))),
            (right[0], (1, (("f", 0), ("g", 0))), right[3]), (right[1], right[2], (2, (("h", 0), ("e", 1)))),
        ):
            tied.sharing = groups
            self.assertTrue(any(one[0] == "keep" for one in faults(tied)))
            self.check(tied, "wrong")

    def test_kept_and_alone_at_fault(self):
        # all uses of one are over before the other one is made, and back: only a step that is left out shows it
        web = Web(
            ("k", 0, (("keep", "h"),)), ("y", 0, (("read", "h", 0),)), ("m", 0, (("make", "x"),)),
            ("z", 0, (("read", "x", 0),)),
        )
        for row in (("k", "y", "m", "z"), ("m", "z", "k", "y")):
            plan = Plan(web, rows={0: row}, sharing=((1, (("h", 0), ("x", 0))),))
            self.assertEqual(list(faults(plan)), [("keep", "h")])
            found = self.check(plan, "wrong")
            self.assertIn(True, [step[2] for step in found[1]])
        for count in (2, 3, 200):
            plan = Plan(web, sharing=((count, (("h", 0),)), (1, (("x", 0),))))
            self.assertEqual(list(faults(plan)), [("keep", "h")])
            self.assertEqual([step for step in self.check(plan, "wrong")[1] if step[2]], [("k", 1, True)])
        self.check(Plan(web), "right")

    def test_kept_beside_a_clash(self):
        # nothing is made in the slot of h on the way to its next reader
        web = Web(
            ("k", 0, (("keep", "h"),)), ("y", 0, (("read", "h", 0),)), ("m", 1, (("make", "x"),)),
            ("z", 1, (("read", "x", 0),)),
        )
        plan = Plan(web, sharing=((1, (("h", 0), ("x", 0))),))
        self.assertEqual(list(faults(plan)), [("keep", "h"), ("clash", "h", "x", 0)])
        self.check(plan, "wrong")

    def test_clash_with_what_must_come_first(self):
        # c, which makes p, comes behind a; only d, which reads what a makes, can come too late
        web = Web(("a", 0, (("make", "r"),)), ("c", 0, (("make", "p"),)), ("d", 1, (("read", "r", 0),)),
                  ("f", 2, (("read", "p", 0),)))
        waits = (("d", "a", 0), ("f", "c", 0), ("a", "d", 1), ("c", "f", 1))
        plan = Plan(web, waits=waits, sharing=((1, (("p", 0), ("r", 0))),))
        self.assertEqual(list(faults(plan)), [("clash", "p", "r", 0)])
        self.assertEqual(self.check(plan, "wrong")[1], (("a", 0, False), ("c", 0, False), ("d", 0, False)))
        self.check(Plan(web, waits=waits), "right")

    def test_kept_buffer_that_only_its_maker_reads(self):
        right = Plan(OWN)
        # the maker clears the slot and then reads what was there
        self.assertEqual(list(faults(right)), [("clash", "h", "h", 1)])
        self.check(right, "wrong")
        wide = Plan(OWN, sharing=((2, (("h", 0),)), (1, (("x", 0),))))
        self.assertEqual(list(faults(wide)), [("keep", "h")])
        found = self.check(wide, "wrong")
        # left out once, and done again later
        self.assertEqual([step[1:] for step in found[1] if step[0] == "k"], [(0, False), (1, True), (2, False)])

    def test_kept_buffer_with_updates(self):
        web = Web(("k", 0, (("keep", "h"),)), ("u", 0, (("update", "h"),)), ("y", 0, (("read", "h", 2),)))
        plan = Plan(web, sharing=((3, (("h", 0),)),))
        self.assertEqual(list(faults(plan)), [("keep", "h")])
        self.assertEqual(self.check(plan, "wrong")[1][-1], ("u", 1, False))
        self.check(Plan(web), "wrong")
        short = Web(("k", 0, (("keep", "h"),)), ("u", 0, (("update", "h"),)), ("y", 0, (("read", "h", 0),)))
        self.check(Plan(short), "right")

    def test_carries(self):
        web = Web(
            ("c", 0, (("carry", "g"),)), ("u", 0, (("read", "g", 0),)), ("m", 0, (("make", "x"),)),
            ("z", 0, (("read", "x", 0),)),
        )
        # x takes the slot of g before the carry of the next frame has copied it
        plan = Plan(web, sharing=((1, (("g", 0), ("x", 0))),))
        self.assertEqual(list(faults(plan)), [("clash", "g", "x", 0)])
        found = self.check(plan, "wrong")
        self.assertEqual(found[1][-1], ("c", 1, True))
        self.check(Plan(web, sharing=((2, (("g", 0), ("x", 1))),)), "right")
        for count in (1, 2, 200):
            self.check(Plan(web, sharing=((count, (("g", 0),)), (1, (("x", 0),)))), "right")

    def test_one_maker_of_two(self):
        for uses, last in (((("make", "s"), ("make", "r")), "r"), ((("make", "r"), ("make", "s")), "s")):
            web = Web(("w", 0, uses), ("v", 0, (("read", "r", 0), ("read", "s", 0))))
            plan = Plan(web, sharing=((1, (("r", 0), ("s", 0))),))
            self.assertEqual(list(faults(plan)), [("clash", "r", "s", 0)])
            found = self.check(plan, "wrong")
            self.assertEqual(found[1], (("w", 0, False), ("v", 0, False)))
            self.assertEqual([one[3][2] for one in Run.after(plan, found[1]).wrong], [("w", 0, "rs".strip(last))])
        # each buffer has a reader of its own; the one that is made first is lost
        for uses, last in (((("make", "s"), ("make", "r")), "y"), ((("make", "r"), ("make", "s")), "x")):
            web = Web(("w", 0, uses), ("x", 1, (("read", "r", 0),)), ("y", 2, (("read", "s", 0),)))
            plan = Plan(web, waits=(("x", "w", 0), ("y", "w", 0), ("w", "x", 1), ("w", "y", 1)),
                        sharing=((1, (("r", 0), ("s", 0))),))
            self.assertEqual(self.check(plan, "wrong")[1], (("w", 0, False), (last, 0, False)))
        self.check(Plan(BOTH), "right")
        self.check(Plan(BOTH, sharing=((2, (("r", 0), ("s", 1))),)), "right")

    def test_clashes_far_away(self):
        # nobody waits for v, so h has no cost; its instances meet after 200 frames
        for count in (1, 2, 19, 200):
            plan = Plan(E2, waits=(("v", "w", 1),), sharing=((count, (("h", 0),)), (1, (("x", 0),))))
            self.assertEqual(list(faults(plan)), [("clash", "h", "h", count)])
            self.assertTrue(count < len(self.check(plan, "wrong")[1]) <= 4000)

    def test_clashes_of_queues_that_do_not_wait(self):
        web = Web(("a", 0, (("make", "r"),)), ("b", 1, (("make", "s"),)), ("x", 0, (("read", "r", 3),)),
                  ("y", 1, (("read", "s", 0),)))
        for count, r, s, later in (
            (4, 0, 0, 0), (200, 0, 100, 100), (200, 100, 0, 100), (200, 0, 199, 1), (200, 150, 51, 99), (200, 0, 1, -1),
            (200, 51, 150, -99), (7, 0, 3, -3), (7, 3, 0, 3), (7, 0, 4, 3),
        ):
            plan = Plan(web, sharing=((count, (("r", r), ("s", s))),))
            self.assertEqual(list(faults(plan)), [("clash", "r", "s", later)])
            self.assertTrue(len(self.check(plan, "wrong")[1]) > abs(later))

    def test_the_longest_runs(self):
        # 15 jobs of one row come 200 times before the slot of the first frame is used again
        names = [chr(97 + at) for at in range(15)]
        buffers = ["b" + chr(97 + at) for at in range(10)]
        jobs = [(name, 0, tuple(("make" if name == "a" else "update", one) for one in buffers)) for name in names]
        reads = tuple(("read", one, age) for one in buffers for age in range(4))
        web = Web(*jobs, ("p", 1, reads))
        plan = Plan(web, waits=(("p", "o", 0),), sharing=tuple((200, ((one, 199),)) for one in buffers))
        self.assertEqual(list(faults(plan))[0], ("clash", "ba", "ba", 200))
        self.assertTrue(3000 < len(self.check(plan, "wrong")[1]) <= 4000)

    def test_random_plans(self):
        rng = rng_of(92)
        words = []
        for _ in range(250):
            web = random_web(rng)
            plan = random_plan(rng, web)
            if rng.random() < 0.7:
                plan.waits = [*plan.waits[:2], *with_needs(web).waits]
            if rng.random() < 0.5:
                plan.sharing = tuple(
                    (rng.choice((1, 3, 9)), ((name, 0),)) for name in web.buffers
                )
            words.append(self.check(plan)[0])
        self.assertTrue(min(words.count(word) for word in ("still", "wrong", "right")) > 20)

    def test_right_plans_find_nothing_wrong(self):
        rng = rng_of(93)
        tried = 0
        while tried < 40:
            web = random_web(rng)
            plan = with_needs(web, depth=rng.choice((None, 1, 2)), more=random_plan(rng, web).waits[:2])
            plan.sharing = random_sharing(rng, web)
            found = verdict(plan)
            if found[0] != "right":
                continue
            tried += 1
            share = rng.random()
            for _ in range(4):
                run = Run(plan)
                for _ in range(60):
                    job = rng.choice(run.ready)
                    gone = web.can_be_left_out(job) and rng.random() < share
                    run.take(job, run.frame(job), gone)
                self.assertEqual(run.wrong, (), str(plan))

    def test_sixteen_jobs_and_ten_buffers(self):
        rng = rng_of(94)
        words = {}
        for queues in (1, 2, 3, 4):
            for _ in range(12):
                web = self.large_web(rng, queues)
                plan = with_needs(web, depth=rng.choice((None, 1, 2, 4)))
                fewest = fewest_slots(plan)
                if fewest[0] == "slots":
                    plan.sharing = fewest[2]
                    words[self.check(plan)[0]] = True
                if rng.random() < 0.3:
                    plan.waits = plan.waits[1:]
                words[self.check(plan)[0]] = True
                plan.sharing = random_sharing(rng, web)
                words[self.check(plan)[0]] = True
                self.check(random_plan(rng, web, waits=rng.choice((4, 30, 200))))
        self.assertTrue({"wrong", "right"} <= set(words))

    def large_web(self, rng, queues):
        while True:
            web = random_web(rng, jobs=16, buffers=10, optional=rng.random() < 0.5)
            if len(web.buffers) == 10:
                jobs = [(job, at % queues, web.uses(job)) for at, job in enumerate(web.jobs)]
                return Web(*jobs, sizes={name: rng.randint(1, 2) for name in web.buffers})

    def test_no_buffers(self):
        self.check(Plan(Web(*many_jobs(16, 4))), "right")
        self.check(Plan(Web(*many_jobs(1))), "right")

    def test_after_changes(self):
        plan = Plan(E2)
        self.check(plan, "wrong")
        plan.waits = P2.waits
        self.check(plan, "wrong")
        plan.sharing = G2
        self.check(plan, "right")
        plan.rows = {1: ("y", "v", "t")}
        self.check(plan, "wrong")
        plan.waits = (("y", "v", 0),)
        self.check(plan, "still")
        self.assertEqual(plan, Plan(E2, rows={1: ("y", "v", "t")}, waits=(("y", "v", 0),), sharing=G2))


if __name__ == "__main__":
    unittest.main()
