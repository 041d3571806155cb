import unittest

from everframe.costs import clashes, cost, cost_table
from everframe.errors import NoBuffer, Standstill
from everframe.leading import lead
from everframe.plans import Plan
from everframe.webs import Web
from tests import oracles
from tests.samples import C, E1, E2, G2, ODD, P1, P2, U, caught, random_plan, random_sharing, rng_of

STILL = Plan(E1, waits=(("d", "a", 0), ("a", "d", 0)))
# w makes two buffers, which live in one slot
BOTH = Web(("w", 0, (("make", "s"), ("make", "r"))), ("v", 0, (("read", "r", 0), ("read", "s", 0))))
CARRY = Web(
    ("c", 0, (("carry", "g"),)), ("u", 0, (("read", "g", 0),)), ("m", 0, (("make", "x"),)),
    ("z", 0, (("read", "x", 0),)),
)

FAR = Plan(
    Web(
        ("ja", 0, ()), ("jb", 1, ()), ("jc", 2, ()), ("jd", 3, (("make", "h"),)),
        ("je", 0, (("read", "h", 3), ("make", "x"))), ("jf", 1, ()), ("jg", 2, ()), ("jh", 0, (("read", "x", 0),)),
        ("ji", 3, ()),
    ),
    waits=(("jf", "ja", 4), ("jg", "jb", 4), ("ji", "jc", 4)),
)


def group(count, *members):
    """A sharing with one group."""
    return ((count, members),)


class TestCost(unittest.TestCase):
    def test_example(self):
        self.assertEqual(cost_table(P2), (("h", "h", 2), ("h", "x", 1), ("x", "h", 1), ("x", "x", 1)))
        loose = Plan(E2, waits=(("v", "w", 1),))
        self.assertEqual([cost(loose, "h", "h"), cost(plan=loose, r="h", s="x")], [None, 1])

    def test_ages(self):
        # all in one row: v of the frame n + age reads what w of the frame n makes
        for age in range(4):
            web = Web(("w", 0, (("make", "h"),)), ("v", 0, (("read", "h", age),)))
            self.assertEqual(cost(Plan(web), "h", "h"), age + 1)
            turned = Plan(web, rows={0: ("v", "w")})
            # v of a frame comes ahead of w of the same frame
            self.assertEqual(cost(turned, "h", "h"), max(1, age))

    def test_updates(self):
        # z of the frame n + 2 reads b of the frame n, and m of the frame n + 3 awaits it
        self.assertEqual(cost(Plan(U, waits=(("u", "x", 0), ("m", "z", 1))), "b", "b"), 3)
        # u, which updates b, is not over when m begins again, and may never be
        self.assertEqual(cost(Plan(U), "b", "b"), None)
        self.assertEqual(cost(Plan(U, waits=(("m", "u", 3), ("m", "z", 1))), "b", "b"), 3)
        self.assertEqual(cost(Plan(U, waits=(("m", "u", 3), ("m", "z", 4))), "b", "b"), 6)

    def test_zero(self):
        # all uses of r are over before c makes p in the same frame
        row = Plan(E1, waits=(("c", "d", 0), ("f", "c", 0)))
        self.assertEqual([cost(row, "r", "p"), cost(row, "r", "r"), cost(row, "r", "s")], [0, 1, 1])
        self.assertEqual(cost(row, "p", "r"), 2)

    def test_one_maker_of_two(self):
        plan = Plan(BOTH)
        self.assertEqual(cost_table(plan), (("r", "r", 1), ("r", "s", 1), ("s", "r", 1), ("s", "s", 1)))

    def test_carry(self):
        # behind itself the carry may copy from its own slot; another buffer has to await the copying
        plan = Plan(CARRY)
        self.assertEqual(cost_table(plan), (("g", "g", 1), ("g", "x", 1), ("x", "g", 1), ("x", "x", 1)))
        self.assertEqual(cost(Plan(Web(
            ("c", 0, (("make", "g"),)), *[(job, 0, CARRY.uses(job)) for job in ("u", "m", "z")],
        )), "g", "x"), 0)
        # x is made ahead of the carry
        early = Plan(CARRY, rows={0: ("m", "z", "c", "u")})
        self.assertEqual([cost(early, "g", "x"), cost(early, "x", "g"), cost(early, "g", "g")], [2, 0, 1])

    def test_two_carries(self):
        web = Web(("c", 0, (("carry", "g"),)), ("d", 0, (("carry", "h"),)),
                  ("z", 0, (("read", "g", 0), ("read", "h", 0))))
        self.assertEqual(cost_table(Plan(web)), (("g", "g", 1), ("g", "h", 1), ("h", "g", 2), ("h", "h", 1)))

    def test_keep(self):
        web = Web(("k", 0, (("keep", "g"),)), ("m", 0, (("make", "x"),)),
                  ("z", 0, (("read", "g", 0), ("read", "x", 0))))
        self.assertEqual(cost_table(Plan(web)), (("g", "g", 1), ("g", "x", 1), ("x", "g", 1), ("x", "x", 1)))

    def test_greatest_cost(self):
        # from the end of each row to its begin, and then with 4 back to the next queue
        self.assertEqual(lead(FAR, "je", "jd"), -16)
        self.assertEqual(cost_table(FAR), (("h", "h", 19), ("h", "x", None), ("x", "h", 16), ("x", "x", 1)))
        for count, found in ((18, [("h", "h", 18)]), (19, [])):
            plan = Plan(FAR.web, waits=FAR.waits, sharing=((count, (("h", 0),)), (1, (("x", 0),))))
            self.assertEqual(list(clashes(plan)), found)

    def test_different_sizes(self):
        sized = Web(*[(job, E2.queue_of(job), E2.uses(job)) for job in E2.jobs], sizes={"h": 3})
        plan = Plan(sized, waits=P2.waits)
        self.assertEqual(cost_table(plan), cost_table(P2))
        self.assertEqual([cost(plan, "h", "x"), cost(plan, "x", "h")], [1, 1])

    def test_against_the_document(self):
        rng = rng_of(81)
        seen = {}
        for _ in range(120):
            plan = random_plan(rng)
            if oracles.stands_still(plan):
                self.assertRaises(Standstill, cost_table, plan)
                continue
            buffers = plan.web.buffers
            expected = tuple((r, s, oracles.cost(plan, r, s)) for r in buffers for s in buffers)
            self.assertEqual(cost_table(plan=plan), expected)
            for r, s, worth in expected:
                self.assertEqual(cost(plan, r, s), worth)
                seen[worth] = True
        self.assertTrue({None, 0, 1, 2, 3, 4, 5} <= set(seen))

    def test_no_buffers(self):
        web = Web(("a", 0, ()))
        self.assertEqual([cost_table(Plan(web)), list(clashes(Plan(web)))], [(), []])


class TestClashes(unittest.TestCase):
    def test_example(self):
        self.assertEqual([list(clashes(P2)), list(clashes(plan=Plan(E2, waits=P2.waits)))], [[], [("h", "h", 1)]])

    def test_itself(self):
        # h costs 2 behind itself
        for count, found in ((1, [("h", "h", 1)]), (2, []), (3, []), (200, [])):
            self.assertEqual(list(clashes(Plan(E2, waits=P2.waits, sharing=((count, (("h", 0),)), (1, (("x", 0),)))))),
                             found)
        # without an end; the positive one is told
        for count in (1, 2, 7, 200):
            for shift in (0, count - 1):
                loose = Plan(E2, waits=(("v", "w", 1),), sharing=((count, (("h", shift),)), (1, (("x", 0),))))
                self.assertEqual(list(clashes(loose)), [("h", "h", count)])

    def test_two_buffers(self):
        # the costs are h h 2, h x 1, x h 1, x x 1
        for count, h, x, found in (
            (2, 0, 1, []), (2, 1, 0, []), (2, 0, 0, [("h", "x", 0)]), (2, 1, 1, [("h", "x", 0)]),
            (1, 0, 0, [("h", "h", 1), ("h", "x", 0)]), (200, 100, 101, []), (200, 0, 199, []),
            (200, 7, 7, [("h", "x", 0)]),
        ):
            plan = Plan(E2, waits=P2.waits, sharing=group(count, ("h", h), ("x", x)))
            self.assertEqual(list(clashes(plan)), found, (count, h, x))

    def test_without_costs(self):
        # no queue awaits another one, so each cost between buffers of different queues is None
        web = Web(("a", 0, (("make", "r"),)), ("b", 1, (("make", "s"),)), ("c", 0, (("read", "r", 0),)),
                  ("d", 1, (("read", "s", 0),)))
        for count, r, s, d in (
            (1, 0, 0, 0), (5, 3, 3, 0), (5, 0, 1, -1), (5, 1, 0, 1), (5, 0, 2, -2), (5, 0, 3, 2), (4, 0, 2, 2),
            (4, 2, 0, 2), (200, 0, 100, 100), (200, 100, 0, 100), (200, 0, 99, -99), (200, 0, 101, 99),
            (200, 199, 0, -1), (2, 0, 1, 1),
        ):
            plan = Plan(web, sharing=group(count, ("r", r), ("s", s)))
            self.assertEqual([one for one in clashes(plan) if one[0] != one[1]], [("r", "s", d)], (count, r, s))
            self.assertEqual(list(clashes(plan)), [("r", "s", d)])

    def test_the_nearest_one_need_not_clash(self):
        # s of a frame is made behind r, and before r of the next one; r is read three frames later
        web = Web(("a", 0, (("make", "r"),)), ("b", 0, (("read", "r", 3),)), ("c", 0, (("make", "s"),)),
                  ("d", 0, (("read", "s", 0),)))
        plan = Plan(web, sharing=group(4, ("r", 0), ("s", 1)))
        self.assertEqual(cost_table(plan), (("r", "r", 4), ("r", "s", 3), ("s", "r", 1), ("s", "s", 1)))
        # d is -1, or 3: -1 < 3, but 1 < 1 does not hold
        self.assertEqual(list(clashes(plan)), [])
        plan.sharing = group(4, ("r", 0), ("s", 2))
        self.assertEqual(list(clashes(plan)), [("r", "s", 2)])
        plan.sharing = group(4, ("r", 0), ("s", 3))
        self.assertEqual(list(clashes(plan)), [("r", "s", 1)])
        plan.sharing = group(3, ("r", 0), ("s", 1))
        self.assertEqual(list(clashes(plan)), [("r", "r", 3), ("r", "s", 2)])

    def test_zero_that_does_not_clash(self):
        # r is over when p of the same frame is made, but not when p of an earlier one is
        web = Web(("a", 0, (("make", "r"),)), ("b", 0, (("read", "r", 0),)), ("c", 0, (("make", "p"),)),
                  ("d", 1, (("read", "p", 0),)))
        plan = Plan(web, waits=(("d", "c", 0), ("a", "d", 4)))
        self.assertEqual(cost_table(plan), (("p", "p", 4), ("p", "r", 4), ("r", "p", 0), ("r", "r", 1)))
        for count, found in ((2, -2), (3, -3), (4, None)):
            self.assertEqual([one for one in clashes(Plan(web, waits=plan.waits, sharing=group(
                count, ("r", 0), ("p", 0),
            ))) if one[0] != one[1]], [] if found is None else [("p", "r", -found)])

    def test_one_maker_of_two(self):
        self.assertEqual(list(clashes(Plan(BOTH, sharing=group(1, ("r", 0), ("s", 0))))), [("r", "s", 0)])
        self.assertEqual(list(clashes(Plan(BOTH, sharing=group(2, ("r", 0), ("s", 1))))), [])

    def test_carry(self):
        # the copy of g is made before x of the same frame is, if x comes behind it
        self.assertEqual(list(clashes(Plan(CARRY, sharing=group(2, ("g", 0), ("x", 1))))), [])
        self.assertEqual(list(clashes(Plan(CARRY, sharing=group(1, ("g", 0), ("x", 0))))), [("g", "x", 0)])

    def test_against_the_document(self):
        rng = rng_of(82)
        seen = []
        for _ in range(150):
            plan = random_plan(rng)
            if oracles.stands_still(plan):
                self.assertRaises(Standstill, list, clashes(plan))
                continue
            for _ in range(3):
                plan.sharing = random_sharing(rng, plan.web)
                expected = oracles.nearest_clashes(plan, {one[:2]: one[2] for one in cost_table(plan)})
                self.assertEqual(list(clashes(plan)), expected)
                seen.extend(d for r, s, d in expected if r != s)
        self.assertTrue({-1, 0, 1, 2} <= set(seen))

    def test_large_counts(self):
        rng = rng_of(83)
        for _ in range(8):
            plan = random_plan(rng, waits=2)
            if oracles.stands_still(plan):
                continue
            count = rng.choice((20, 199, 200))
            plan.sharing = tuple(
                (count, tuple((name, rng.randrange(count)) for name, _ in members)) for _, members in plan.sharing
            )
            expected = oracles.nearest_clashes(plan, {one[:2]: one[2] for one in cost_table(plan)})
            self.assertEqual(list(clashes(plan)), expected)

    def test_several_at_once(self):
        loose = Plan(E1, sharing=group(1, ("p", 0), ("r", 0), ("s", 0)))
        one, other = clashes(loose), clashes(Plan(E1))
        rows = list(zip(one, other))
        self.assertEqual([row[0] for row in rows], list(clashes(loose))[:len(rows)])
        self.assertEqual([row[1] for row in rows], list(clashes(Plan(E1)))[:len(rows)])
        self.assertTrue(rows)


class TestErrors(unittest.TestCase):
    def test_names_of_any_kind(self):
        for value in (*ODD, "a", "zz", P1):
            # ahead of a standstill
            for plan in (P1, STILL):
                for parts in ((value, "r"), ("r", value), (value, "zzz")):
                    with self.assertRaises(NoBuffer) as error:
                        cost(plan, *parts)
                    self.assertIs(error.exception.name, value)

    def test_standstill(self):
        for plan in (STILL, Plan(E1, waits=(("b", "b", 0),))):
            for call in (lambda: cost(plan, "r", "r"), lambda: cost_table(plan), lambda: next(clashes(plan))):
                with self.assertRaises(Standstill) as error:
                    call()
                self.assertTrue(oracles.is_ring(plan, error.exception.ring))


class TestChanges(unittest.TestCase):
    def test_the_plan_may_change(self):
        plan = Plan(E2)
        self.assertEqual([cost(plan, "h", "h"), list(clashes(plan))], [None, [("h", "h", 1)]])
        plan.waits = P2.waits
        self.assertEqual([cost(plan, "h", "h"), list(clashes(plan))], [2, [("h", "h", 1)]])
        plan.sharing = G2
        self.assertEqual([cost_table(plan), list(clashes(plan))], [cost_table(P2), []])
        plan.rows = {1: ("t", "y", "v")}
        self.assertEqual([cost(plan, "h", "x"), list(clashes(plan))], [2, [("h", "h", 2), ("h", "x", 1)]])
        plan.rows = None
        plan.waits = ()
        plan.depth = 1
        self.assertEqual([cost(plan, "h", "h"), list(clashes(plan))], [2, []])
        plan.depth = None
        plan.waits = (("w", "v", 0), ("v", "w", 0))
        self.assertEqual(caught(cost_table, plan)[0], "Standstill")
        self.assertEqual(plan, Plan(E2, waits=plan.waits, sharing=G2))

    def test_the_sharing_is_only_looked_at_by_clashes(self):
        for sharing in (None, G2, group(200, ("h", 3), ("x", 5))):
            self.assertEqual(cost_table(Plan(E2, waits=P2.waits, sharing=sharing)), cost_table(P2))

    def test_needs_are_not_looked_at(self):
        self.assertEqual(cost_table(Plan(C)), (("h", "h", None),))


if __name__ == "__main__":
    unittest.main()
