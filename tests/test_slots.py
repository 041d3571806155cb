import itertools
import unittest

from everframe.costs import clashes, cost_table
from everframe.errors import Standstill
from everframe.leading import lead
from everframe.needs import needs
from everframe.plans import Plan
from everframe.sharings import is_sharing
from everframe.slots import fewest_slots
from everframe.verdicts import verdict
from everframe.webs import Web
from tests import oracles
from tests.samples import E1, E2, G2, P1, P2, many_jobs, random_plan, random_sharing, random_web, rng_of

K = Web(("w", 0, (("keep", "h"),)), ("v", 1, (("read", "h", 1),)))
STILL = Plan(E1, waits=(("d", "a", 0), ("a", "d", 0)))
# a keep, a carry that may go on for ever, and a make that may, too
MIXED = Web(
    ("k", 0, (("keep", "x"),)), ("c", 1, (("carry", "g"),)), ("m", 1, (("make", "f"),)),
    ("y", 2, (("read", "f", 1),)), ("z", 3, (("read", "x", 0), ("read", "g", 0), ("read", "f", 0))),
)


def kept(web):
    """The buffers that are made by a keep."""
    return [name for name in web.buffers if "keep" in [word for _, _, word in web.uses_of(name)]]


class TestSlots(unittest.TestCase):
    def check(self, plan):
        """That what is told is one of the answers, and the first that applies."""
        found = fewest_slots(plan)
        costs = {one[:2]: one[2] for one in cost_table(plan)}
        own = {name: costs[name, name] for name in plan.web.buffers}
        bad = [name for name in kept(plan.web) if own[name] is None or own[name] > 1]
        loose = [name for name in plan.web.buffers if own[name] is None]
        if bad:
            self.assertEqual(found, ("kept", bad[0], self.late_user(plan, bad[0])))
        elif loose:
            self.assertEqual(found, ("endless", loose[0], *self.loose_user(plan, loose[0])))
        else:
            self.check_slots(plan, found, costs)
        self.assertEqual(fewest_slots(plan), found)
        return found

    def late_user(self, plan, buffer):
        maker = plan.web.maker(buffer)
        for job, age, _ in plan.web.uses_of(buffer):
            if lead(plan, job, maker) is None or age - lead(plan, job, maker) > 1:
                return job

    def loose_user(self, plan, buffer):
        maker = plan.web.maker(buffer)
        jobs = [job for job in sorted(plan.web.jobs) if job == maker or lead(plan, job, maker) is not None]
        for job, _, _ in plan.web.uses_of(buffer):
            if lead(plan, job, maker) is None:
                return job, tuple(jobs)

    def check_slots(self, plan, found, costs):
        word, many, sharing, crowd = found
        web = plan.web
        self.assertEqual([word, found.__class__, many.__class__], ["slots", tuple, int])
        # a sharing as a plan keeps it, which fits
        self.assertTrue(is_sharing(web, sharing))
        shared = Plan(web, rows=plan.rows, waits=plan.waits, depth=plan.depth, sharing=sharing)
        self.assertEqual(shared.sharing, sharing)
        self.assertEqual([members[0][1] for _, members in sharing], [0] * len(sharing))
        self.assertEqual(list(clashes(shared)), [])
        for name in kept(web):
            self.assertIn((1, ((name, 0),)), sharing)
            self.assertIn((name, 0, 0), crowd)
        self.assertEqual(sum(count for count, _ in sharing), many)
        # a crowd that fits
        self.assertEqual([crowd.__class__, tuple(name for name, _, _ in crowd)], [tuple, web.buffers])
        self.assertEqual(sum(last - first + 1 for _, first, last in crowd), many)
        for one, first, last in crowd:
            self.assertTrue(first >= 0 and last >= first - 1)
            for other, _, end in crowd:
                if web.size(one) == web.size(other) and not {one, other} & set(kept(web)):
                    self.assertTrue(costs[one, other] is None or end - first < costs[one, other])

    def test_example(self):
        loose = Plan(E2, waits=(("v", "w", 1),))
        self.assertEqual([fewest_slots(P2)[:2], fewest_slots(plan=loose)],
                         [("slots", 2), ("endless", "h", "v", ("w",))])
        self.assertEqual([fewest_slots(Plan(K, waits=(("v", "w", 1), ("w", "v", 1)))),
                          fewest_slots(Plan(K, waits=(("v", "w", 1), ("w", "v", 0))))[:2]],
                         [("kept", "h", "v"), ("slots", 1)])
        self.assertEqual(self.check(P1)[1], 3)
        self.check(P2)

    def test_exchanged(self):
        # the costs are h h 3, h x 1, x h 2, x x 1
        plan = Plan(E2, waits=(("v", "w", 1),), depth=2)
        self.assertEqual([self.check(plan)[1:3], cost_table(plan)], [
            (3, ((3, (("h", 0), ("x", 2))),)), (("h", "h", 3), ("h", "x", 1), ("x", "h", 2), ("x", "x", 1)),
        ])

    def test_kept(self):
        both = Web(
            ("k", 0, (("keep", "h"),)), ("i", 1, (("keep", "g"),)),
            ("z", 2, (("read", "h", 0), ("read", "g", 2), ("read", "g", 0))),
        )
        # the least buffer, and the first user that comes too late
        self.assertEqual(self.check(Plan(both)), ("kept", "g", "z"))
        self.assertEqual(self.check(Plan(both, waits=(("i", "z", 0), ("k", "z", 1)))), ("kept", "g", "z"))
        near = Web(("k", 0, (("keep", "h"),)), ("a", 1, (("read", "h", 0),)), ("b", 2, (("read", "h", 0),)))
        for waits, expected in (
            ((), ("kept", "h", "a")), ((("k", "a", 1),), ("kept", "h", "b")), ((("k", "b", 1),), ("kept", "h", "a")),
            ((("k", "a", 1), ("k", "b", 2)), ("kept", "h", "b")), ((("k", "a", 2), ("k", "b", 2)), ("kept", "h", "a")),
            ((("k", "a", 1), ("k", "b", 1)), ("slots", 1, ((1, (("h", 0),)),), (("h", 0, 0),))),
        ):
            self.assertEqual(self.check(Plan(near, waits=waits)), expected)
        # its maker reads it itself
        own = Web(("k", 0, (("keep", "h"), ("read", "h", 1))))
        self.assertEqual(self.check(Plan(own)), ("kept", "h", "k"))

    def test_kept_ahead_of_endless(self):
        plan = Plan(MIXED)
        self.assertEqual(self.check(plan), ("kept", "x", "z"))
        # f and g are less than x, but they come behind it
        self.assertEqual(self.check(Plan(MIXED, waits=(("k", "z", 1),)))[:3], ("endless", "f", "y"))

    def test_endless(self):
        for waits, expected in (
            ((("k", "z", 1),), ("endless", "f", "y", ("c", "m"))),
            ((("k", "z", 1), ("m", "y", 4)), ("endless", "f", "z", ("c", "m", "y"))),
            ((("k", "z", 1), ("m", "z", 0)), ("endless", "f", "y", ("c", "m", "z"))),
            ((("k", "z", 1), ("m", "k", 0)), ("endless", "f", "y", ("c", "k", "m", "z"))),
        ):
            self.assertEqual(self.check(Plan(MIXED, waits=waits)), expected)
        # g comes behind f, and only g has no cost
        web = Web(("a", 0, (("make", "f"),)), ("b", 0, (("read", "f", 0),)), ("c", 1, (("make", "g"),)),
                  ("d", 0, (("read", "g", 0),)))
        self.assertEqual(self.check(Plan(web)), ("endless", "g", "d", ("c",)))

    def test_kept_buffers_have_slots_of_their_own(self):
        web = Web(
            ("k", 0, (("keep", "h"),)), ("y", 0, (("read", "h", 0),)), ("m", 0, (("make", "x"),)),
            ("z", 0, (("read", "x", 0),)), ("n", 0, (("make", "w"),)), ("u", 0, (("read", "w", 0),)),
        )
        self.assertEqual(self.check(Plan(web))[1:3], (2, ((1, (("h", 0),)), (1, (("w", 0), ("x", 0))))))

    def test_sizes(self):
        # all in one row: with one size two buffers share a slot
        jobs = (("a", 0, (("make", "p"),)), ("b", 0, (("read", "p", 0),)), ("c", 0, (("make", "q"),)),
                ("d", 0, (("read", "q", 0),)), ("e", 0, (("make", "r"),)), ("f", 0, (("read", "r", 0),)))
        for sizes, many in (({}, 1), ({"p": 2}, 2), ({"p": 2, "q": 2}, 2), ({"p": 1, "q": 2, "r": 9}, 3)):
            self.assertEqual(self.check(Plan(Web(*jobs, sizes=sizes)))[1], many)

    def test_carry(self):
        web = Web(("c", 0, (("carry", "g"),)), ("u", 0, (("read", "g", 0),)), ("m", 0, (("make", "x"),)),
                  ("z", 0, (("read", "x", 0),)))
        self.assertEqual(self.check(Plan(web))[1], 2)

    def test_one_maker_of_two(self):
        web = Web(("w", 0, (("make", "s"), ("make", "r"))), ("v", 0, (("read", "r", 0), ("read", "s", 0))))
        self.assertEqual(self.check(Plan(web))[1], 2)

    def test_no_buffers(self):
        self.assertEqual(self.check(Plan(Web(*many_jobs(3)))), ("slots", 0, (), ()))

    def test_only_orders_are_looked_at(self):
        for sharing in (None, G2, ((7, (("h", 3), ("x", 5))),)):
            self.assertEqual(fewest_slots(Plan(E2, waits=P2.waits, sharing=sharing)), fewest_slots(P2))
        # the needs do not hold, and still the slots are told
        self.assertEqual(verdict(Plan(E2, depth=4))[0], "wrong")
        self.assertEqual(self.check(Plan(E2, depth=4))[0], "slots")

    def test_the_sharing_is_right_if_the_needs_hold(self):
        rng = rng_of(111)
        tried = 0
        while tried < 50:
            web = random_web(rng)
            plan = Plan(web, waits=[(after, before, back) for before, after, back in needs(web)],
                        depth=rng.randint(1, 4))
            found = self.check(plan)
            if found[0] == "slots":
                plan.sharing = found[2]
                self.assertEqual(verdict(plan)[0], "right")
                tried += 1

    def test_against_all_permutations(self):
        rng = rng_of(112)
        words = []
        sizes = []
        for _ in range(400):
            web = random_web(rng, buffers=rng.randint(0, 6), optional=rng.random() < 0.3)
            plan = random_plan(rng, web)
            if oracles.stands_still(plan):
                self.assertRaises(Standstill, fewest_slots, plan)
                continue
            found = self.check(plan)
            words.append(found[0])
            if found[0] == "slots":
                self.assertEqual(found[1], self.slow_count(plan))
                sizes.append(len(web.buffers))
        self.assertTrue(min(words.count(word) for word in ("kept", "endless", "slots")) > 10)
        self.assertTrue(max(sizes) >= 5)

    def slow_count(self, plan):
        costs = {one[:2]: one[2] for one in cost_table(plan)}
        web = plan.web
        total = len(kept(web))
        for size in set(web.sizes.values()):
            alike = [name for name in web.buffers if web.size(name) == size and name not in kept(web)]
            sums = []
            for order in itertools.permutations(alike):
                parts = [costs[pair] for pair in zip(alike, order)]
                if None not in parts:
                    sums.append(sum(parts))
            total += min(sums)
        return total

    def test_no_sharing_that_fits_has_fewer(self):
        rng = rng_of(113)
        tried = 0
        while tried < 25:
            web = random_web(rng, jobs=5, buffers=3, optional=False)
            plan = random_plan(rng, web)
            if oracles.stands_still(plan) or fewest_slots(plan)[0] != "slots":
                continue
            tried += 1
            many = fewest_slots(plan)[1]
            for _ in range(60):
                plan.sharing = random_sharing(rng, web)
                if not list(clashes(plan)):
                    self.assertTrue(sum(count for count, _ in plan.sharing) >= many)

    def test_ten_buffers(self):
        rng = rng_of(114)
        words = []
        for _ in range(60):
            web = random_web(rng, jobs=16, buffers=10, optional=False)
            plain = Web(*[(job, at % rng.randint(1, 4), web.uses(job)) for at, job in enumerate(web.jobs)])
            plan = random_plan(rng, plain, waits=rng.choice((0, 4, 20)))
            plan.depth = rng.randint(1, 4)
            if not oracles.stands_still(plan):
                words.append(self.check(plan)[0])
        self.assertTrue(words.count("slots") > 20)

    def test_the_most_slots(self):
        # ten buffers with the cost 19 behind themselves and behind one another
        names = ["b" + chr(97 + at) for at in range(10)]
        web = Web(
            ("ja", 0, ()), ("jb", 1, ()), ("jc", 2, ()), ("jd", 3, tuple(("make", name) for name in names)),
            ("je", 0, tuple(("read", name, 3) for name in names)), ("jf", 1, ()), ("jg", 2, ()), ("jh", 3, ()),
        )
        plan = Plan(web, waits=(("jf", "ja", 4), ("jg", "jb", 4), ("jh", "jc", 4)))
        self.assertEqual(set(one[2] for one in cost_table(plan)), {19})
        self.assertEqual(self.check(plan)[1], 190)


class TestErrors(unittest.TestCase):
    def test_standstill(self):
        for plan in (STILL, Plan(K, waits=(("w", "w", 0),)), Plan(E2, waits=(("t", "y", 0),))):
            with self.assertRaises(Standstill) as error:
                fewest_slots(plan)
            self.assertTrue(oracles.is_ring(plan, error.exception.ring))

    def test_after_changes(self):
        plan = Plan(E2)
        self.assertEqual(fewest_slots(plan), ("endless", "h", "v", ("w",)))
        plan.depth = 1
        self.assertEqual(fewest_slots(plan)[:2], ("slots", 2))
        plan.depth = None
        plan.waits = (("w", "v", 0), ("v", "w", 0))
        self.assertRaises(Standstill, fewest_slots, plan)
        plan.waits = P2.waits
        self.assertEqual([fewest_slots(plan), plan], [fewest_slots(P2), Plan(E2, waits=P2.waits)])


if __name__ == "__main__":
    unittest.main()
