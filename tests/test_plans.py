import unittest

from everframe.errors import InvalidPlan, InvalidSharing
from everframe.leads import Lead
from everframe.plans import Plan
from everframe.webs import Web
from tests import oracles
from tests.samples import (
    E1, E2, G2, ODD, P1, P2, bare, caught, many_jobs, random_plan, random_sharing, random_web, rng_of,
)

SIZED = Web(
    ("a", 0, (("make", "r"), ("make", "s"), ("make", "k"))),
    ("b", 2, (("read", "r", 0), ("read", "s", 0), ("read", "k", 1))),
    sizes={"s": 2},
)

WRONG_ROWS = (
    *[(value, -1) for value in ODD if value not in (None, {})],
    ({2: ["a"]}, -1), ({True: ["d", "e", "f"]}, -1), ({None: []}, -1), ({"0": ["a", "b", "c"]}, -1),
    ({0: ["a", "b", "c"], 3: []}, -1), ({-1: ()}, -1), ({(0,): ()}, -1), ({0: ["a"], 2: []}, -1),
    ({0: ["a", "b"]}, 0), ({0: ["a", "b", "c", "a"]}, 0), ({0: ["a", "b", "b"]}, 0), ({0: ()}, 0),
    ({0: ["a", "b", "d"]}, 0), ({0: ["a", "b", ["c"]]}, 0), ({0: ["a", "b", None]}, 0), ({0: None}, 0),
    ({0: "abc"}, 0), ({0: {"a": 1, "b": 2, "c": 3}}, 0), ({1: ["d", "e"]}, 1), ({1: 5}, 1), ({1: True}, 1),
    ({1: ["d"], 0: ["a"]}, 0), ({1: ["f", "e", "a"], 0: ["c", "b", "a"]}, 1),
)
WRONG_WAITS = (
    *[(value, -1) for value in ODD if not isinstance(value, (list, tuple))],
    (("d", "a", 0), 0), ([["d", "a", 0]], 0), ([("d", "a")], 0), ([("d", "a", 0, 0)], 0), ([()], 0),
    ([("d", "a", 5)], 0), ([("d", "a", -1)], 0), ([("d", "a", True)], 0), ([("d", "a", "0")], 0),
    ([("d", "a", None)], 0), ([("d", "a", [0])], 0), ([("d", "r", 0)], 0), ([("z", "a", 0)], 0),
    ([(["d"], "a", 0)], 0), ([("d", None, 0)], 0), ([None], 0), ([("d", "a", 0), ("d", "a", 9), None], 1),
    ((("d", "a", 0), ("d", "d", 4), ("d", {}, 0)), 2), ([("d", "a", 10 ** 39)], 0),
)
WRONG_DEPTHS = (*[value for value in ODD if value is not None], 0, 5, "1", (1,), [1], 10 ** 39, Lead(1))
WRONG_SHARINGS = (
    *[(value, -1) for value in ODD if value is not None and not isinstance(value, tuple)],
    ([(1, (("h", 0),)), (1, (("x", 0),))], -1), ((), 0), (((1, (("h", 0),)),), 1),
    ((1, (("h", 0),)), 0), (((0, (("h", 0), ("x", 0))),), 0), (((201, (("h", 0), ("x", 0))),), 0),
    (((True, (("h", 0), ("x", 0))),), 0), (((1, [("h", 0), ("x", 0)]),), 0), (((1, ()),), 0),
    (((1, (("h", 0), ["x", 0])),), 0), (((1, (("h", 0), ("x",))),), 0), (((1, (("h", 0), ("x", 0, 0))),), 0),
    (((2, (("h", 0), ("x", 2))),), 0), (((2, (("h", -1), ("x", 1))),), 0), (((2, (("h", False), ("x", 1))),), 0),
    (((2, (("h", 0), ("x", "1"))),), 0), (((2, (("h", 0), ("z", 1))),), 0), (((2, (("h", 0), (["x"], 1))),), 0),
    (((2, (("h", 0), ("w", 1))),), 0), (((2, (("h", 0), ("h", 1))),), 0), (([2, (("h", 0), ("x", 1))],), 0),
    (((1, (("h", 0),)), (1, (("h", 0),)), (1, (("x", 0),))), 1), (((1, (("h", 0),)), None), 1),
    (((1, (("x", 0),)), (1, (("h", 0), ("x", 0)))), 1), (((2, ("h", "x")),), 0), (((1, (None,)),), 0),
    (((1, (("h", 0),)), (1, (("x", 0),)), ()), 2),
)


class TestErrors(unittest.TestCase):
    def check(self, web, part, value, error):
        self.assertEqual(caught(Plan, web, **{part: value}), error, value)
        plan = P1 if web is E1 else P2
        plan = Plan(web, rows=plan.rows, waits=plan.waits, depth=3, sharing=plan.sharing)
        before = (plan.rows, plan.waits, plan.depth, plan.sharing, plan.ties, str(plan))
        self.assertEqual(caught(getattr(plan, "set_" + part), value), error, value)
        self.assertEqual(caught(setattr, plan, part, value), error, value)
        self.assertEqual((plan.rows, plan.waits, plan.depth, plan.sharing, plan.ties, str(plan)), before)

    def test_rows(self):
        for rows, queue in WRONG_ROWS:
            self.check(E1, "rows", rows, ("InvalidPlan", "rows", queue))

    def test_waits(self):
        self.check(E1, "waits", None, ("InvalidPlan", "waits", -1))
        for waits, at in WRONG_WAITS:
            self.check(E1, "waits", waits, ("InvalidPlan", "waits", at))

    def test_depth(self):
        for depth in WRONG_DEPTHS:
            self.check(E1, "depth", depth, ("InvalidPlan", "depth", -1))

    def test_sharing(self):
        for sharing, at in WRONG_SHARINGS:
            self.check(E2, "sharing", sharing, ("InvalidSharing", at))

    def test_sizes_in_a_group(self):
        self.assertEqual(caught(Plan, SIZED, sharing=((2, (("k", 0), ("r", 1), ("s", 0))),)), ("InvalidSharing", 0))
        mixed = ((1, (("k", 0),)), (2, (("r", 0), ("s", 1))))
        self.assertEqual(caught(Plan, SIZED, sharing=mixed), ("InvalidSharing", 1))
        self.assertIsNone(caught(Plan, SIZED, sharing=((2, (("k", 0), ("r", 1))), (1, (("s", 0),)))))

    def test_which_error_goes_first(self):
        rows, waits, depth, sharing = {0: ["w", "w"]}, [None], 9, ()
        named = {"rows": rows, "waits": waits, "depth": depth, "sharing": sharing}
        for part, error in (
            ("rows", ("InvalidPlan", "rows", 0)), ("waits", ("InvalidPlan", "waits", 0)),
            ("depth", ("InvalidPlan", "depth", -1)), ("sharing", ("InvalidSharing", 0)),
        ):
            self.assertEqual(caught(Plan, E2, **named), error)
            del named[part]
        self.assertEqual(caught(Plan, E2, rows={0: [], 1: [], 2: []}, waits=None), ("InvalidPlan", "rows", -1))
        with self.assertRaises(InvalidPlan) as error:
            Plan(E2, waits=None)
        self.assertEqual((error.exception.part, error.exception.index), ("waits", -1))
        with self.assertRaises(InvalidSharing) as error:
            Plan(E2, sharing=((1, (("h", 0),)),))
        self.assertEqual(error.exception.index, 1)

    def test_waits_one_by_one(self):
        for method in (P2.with_wait, P2.without_wait):
            for value in (*ODD, ("v", "w", 5), ("v", "w", True), ("v", "x", 0), ["v", "w", 1], ("v", "w"), P2):
                self.assertEqual(caught(method, value), ("InvalidPlan", "waits", 0), value)
        for wait in (("v", "w", 0), ("w", "v", 1), ("w", "w", 1)):
            self.assertEqual(caught(P2.without_wait, wait), ("InvalidPlan", "waits", 0))
        self.assertEqual(P2.waits, (("v", "w", 1), ("w", "y", 1)))


class TestPlan(unittest.TestCase):
    def test_default(self):
        plan = Plan(web=E1)
        self.assertEqual(plan.web, E1)
        self.assertEqual(plan.rows, {0: ("a", "b", "c"), 1: ("d", "e", "f")})
        self.assertEqual((plan.waits, plan.depth), ((), None))
        self.assertEqual(plan.sharing, ((1, (("p", 0),)), (1, (("r", 0),)), (1, (("s", 0),))))
        self.assertEqual((Plan.MOST_BACK, plan.MOST_BACK), (4, 4))
        self.assertEqual(Plan(Web(bare("a", 0)), sharing=()).sharing, ())

    def test_rows(self):
        for rows in (None, {}, {0: ("a", "b", "c")}, {1: ["d", "e", "f"], 0: ["a", "b", "c"]}):
            self.assertEqual(Plan(E1, rows=rows), Plan(E1))
        plan = Plan(E1, rows={1: ["f", "d", "e"]})
        self.assertEqual(list(plan.rows.items()), [(0, ("a", "b", "c")), (1, ("f", "d", "e"))])
        plan.rows = {0: ("c", "a", "b")}
        self.assertEqual(list(plan.rows.items()), [(0, ("c", "a", "b")), (1, ("d", "e", "f"))])
        self.assertIsNone(plan.set_rows(value={1: ("f", "d", "e")}))
        self.assertEqual(list(plan.rows.items()), [(0, ("a", "b", "c")), (1, ("f", "d", "e"))])
        plan.rows = None
        self.assertEqual(plan, Plan(E1))

    def test_waits(self):
        waits = [("f", "c", 0), ("a", "f", 1), ("f", "c", 0), ("a", "a", 4), ("a", "f", 0)]
        kept = (("a", "a", 4), ("a", "f", 0), ("a", "f", 1), ("f", "c", 0))
        for given in (waits, tuple(waits), waits[::-1]):
            plan = Plan(E1, waits=given)
            self.assertEqual((plan.waits, len(plan)), (kept, 4))
        plan.waits = [("d", "a", 2)]
        self.assertEqual(plan.waits, (("d", "a", 2),))
        self.assertIsNone(plan.set_waits(value=()))
        self.assertEqual((plan.waits, len(plan)), ((), 0))

    def test_depth(self):
        plan = Plan(E1)
        for depth in (1, 2, 3, 4, None):
            self.assertEqual(Plan(E1, depth=depth).depth, depth)
            plan.depth = depth
            self.assertEqual(plan.depth, depth)
            self.assertEqual(plan.ties, Plan(E1, depth=depth).ties)
            self.assertIsNone(Plan(E1).set_depth(value=depth))

    def test_sharing(self):
        apart = ((1, (("p", 0),)), (1, (("r", 0),)), (1, (("s", 0),)))
        self.assertEqual(Plan(E1, sharing=apart[::-1]).sharing, apart)
        plan = Plan(E1, sharing=((1, (("s", 0),)), (200, (("r", 0), ("p", 199)))))
        self.assertEqual(plan.sharing, ((200, (("p", 199), ("r", 0))), (1, (("s", 0),))))
        plan.sharing = None
        self.assertEqual(plan.sharing, apart)
        plan = Plan(E1, sharing=((9, (("s", 1),)), (1, (("r", 0),)), (5, (("p", 2),))))
        self.assertEqual(plan.sharing, ((5, (("p", 2),)), (1, (("r", 0),)), (9, (("s", 1),))))
        self.assertIsNone(plan.set_sharing(value=((1, (("s", 0), ("r", 0), ("p", 0))),)))
        self.assertEqual(plan.sharing, ((1, (("p", 0), ("r", 0), ("s", 0))),))

    def test_what_is_passed_is_copied(self):
        rows, waits = {0: ["c", "b", "a"]}, [("f", "c", 0)]
        plan = Plan(E1, rows=rows, waits=waits)
        kept = str(plan)
        rows[0].reverse()
        rows[1] = 3
        waits.append(None)
        self.assertEqual((str(plan), rows, waits), (kept, {0: ["a", "b", "c"], 1: 3}, [("f", "c", 0), None]))
        row = ["b", "a", "c"]
        plan.rows = {0: row}
        plan.waits = some = [("a", "b", 3)]
        row.pop()
        some.pop()
        self.assertEqual((plan.rows[0], plan.waits), (("b", "a", "c"), (("a", "b", 3),)))

    def test_what_is_returned_belongs_to_the_caller(self):
        plan = Plan(E1)
        rows = plan.rows
        rows[0] = ("c", "b", "a")
        del rows[1]
        self.assertEqual(plan.rows, {0: ("a", "b", "c"), 1: ("d", "e", "f")})
        self.assertIsInstance(plan.waits, tuple)
        self.assertIsInstance(plan.sharing, tuple)

    def test_with_and_without_a_wait(self):
        more = P2.with_wait(("y", "w", 3))
        self.assertEqual(more.waits, (("v", "w", 1), ("w", "y", 1), ("y", "w", 3)))
        self.assertEqual(P2.with_wait(wait=("v", "w", 1)), P2)
        self.assertIsNot(P2.with_wait(("v", "w", 1)), P2)
        self.assertEqual(more.without_wait(wait=("y", "w", 3)), P2)
        plan = Plan(E1, rows={0: ["c", "b", "a"]}, depth=3, sharing=((1, (("s", 0), ("r", 0), ("p", 0))),))
        other = plan.with_wait(("a", "a", 4))
        self.assertEqual((other.rows, other.depth, other.sharing), (plan.rows, 3, plan.sharing))
        self.assertEqual((plan.waits, other.waits), ((), (("a", "a", 4),)))
        other.depth = None
        other.rows = None
        self.assertEqual((plan.depth, plan.rows[0]), (3, ("c", "b", "a")))

    def test_equal(self):
        plan = Plan(E2, rows={1: ["t", "v", "y"]}, waits=[("v", "w", 1)], depth=2, sharing=G2)
        same = {"rows": {1: ("t", "v", "y"), 0: ["w"]}, "waits": (("v", "w", 1),) * 2, "depth": 2,
                "sharing": ((2, (("x", 1), ("h", 0))),)}
        self.assertTrue(plan == Plan(E2, **same) and not plan != Plan(E2, **same))
        changes = {"rows": None, "waits": (), "depth": None, "sharing": None}
        for part, value in changes.items():
            other = Plan(E2, **{**same, part: value})
            self.assertTrue(plan != other and not plan == other)
        jobs = [(job, E2.queue_of(job), E2.uses(job)) for job in E2.jobs]
        self.assertNotEqual(plan, Plan(Web(*jobs, sizes={"x": 2, "h": 2}), **same))
        self.assertEqual(plan, Plan(Web(*jobs), **same))
        self.assertEqual(P1, Plan(E1, waits=P1.waits))
        for value in (*ODD, E2, str(plan), repr(plan), Lead()):
            self.assertTrue(plan != value and not plan == value)
            self.assertTrue(value != plan and not value == plan)

    def test_contains(self):
        self.assertTrue(all(job in P1 for job in E1.jobs))
        for value in (*ODD, "r", "zz", E1, P1, ("d", "a", 0)):
            self.assertIs(value in P1, False)

    def test_repr(self):
        self.assertEqual([repr(P1), repr(P2)], ["Plan(6 jobs, 3 waits)", "Plan(4 jobs, 2 waits)"])
        self.assertEqual(repr(Plan(Web(bare("a", 0)), waits=[("a", "a", 1)])), "Plan(1 jobs, 1 waits)")


class TestTies(unittest.TestCase):
    def test_of_rows(self):
        self.assertEqual(Plan(Web(bare("a", 2))).ties, (("a", "a", -1),))
        self.assertEqual(Plan(Web(bare("a", 2), bare("b", 2))).ties, (("a", "b", 0), ("b", "a", -1)))
        plan = Plan(Web(bare("a", 2), bare("b", 2), bare("c", 2)), rows={2: ["b", "c", "a"]})
        self.assertEqual(plan.ties, (("a", "b", -1), ("b", "c", 0), ("c", "a", 0)))

    def test_of_waits(self):
        web = Web(bare("a", 0), bare("b", 1))
        for back in range(5):
            plan = Plan(web, waits=[("b", "a", back)])
            self.assertEqual(plan.ties, (("a", "a", -1), ("a", "b", -back), ("b", "b", -1)))

    def test_of_a_depth(self):
        web = Web(bare("a", 0), bare("b", 1), bare("c", 0), bare("d", 3))
        for depth in (1, 2, 3, 4):
            crossing = [("c", "b", -depth), ("c", "d", -depth), ("b", "a", -depth), ("b", "d", -depth),
                        ("d", "a", -depth), ("d", "b", -depth)]
            own = [("a", "c", 0), ("c", "a", -1), ("b", "b", -1), ("d", "d", -1)]
            self.assertEqual(Plan(web, depth=depth).ties, tuple(sorted(crossing + own)))
        self.assertEqual(Plan(Web(bare("a", 0)), depth=1).ties, (("a", "a", -1),))

    def test_the_greatest_of_several(self):
        web = Web(bare("a", 0), bare("b", 1), bare("c", 0))
        waits = [("b", "a", 3), ("b", "a", 1), ("b", "a", 2), ("c", "a", 1), ("a", "c", 0), ("b", "b", 2)]
        plan = Plan(web, waits=waits, depth=2)
        self.assertEqual(plan.ties, (
            ("a", "b", -1), ("a", "c", 0), ("b", "a", -2), ("b", "b", -1), ("c", "a", 0), ("c", "b", -2),
        ))
        plan = Plan(web, waits=[("b", "c", 3), ("b", "b", 0)], depth=1)
        self.assertEqual(plan.ties, (
            ("a", "c", 0), ("b", "a", -1), ("b", "b", 0), ("c", "a", -1), ("c", "b", -1),
        ))

    def test_after_changes(self):
        plan = Plan(E1)
        plan.rows = {0: ["c", "b", "a"]}
        self.assertEqual(plan.ties, Plan(E1, rows={0: ["c", "b", "a"]}).ties)
        plan.waits = P1.waits
        plan.depth = 3
        self.assertEqual(plan.ties, Plan(E1, rows={0: ["c", "b", "a"]}, waits=P1.waits, depth=3).ties)
        plan.set_rows(None)
        plan.set_depth(None)
        self.assertEqual(plan.ties, P1.ties)
        self.assertIn(("b", "c", 0), plan.ties)

    def test_random_plans(self):
        rng = rng_of(3)
        for _ in range(300):
            plan = random_plan(rng)
            self.assertEqual(plan.ties, oracles.ties(plan))
            plan.waits = random_plan(rng, plan.web).waits
            plan.depth = rng.choice((None, 1, 4))
            plan.rows = random_plan(rng, plan.web).rows
            self.assertEqual(plan.ties, oracles.ties(plan))

    def test_sixteen_jobs(self):
        for queues in (1, 2, 3, 4):
            web = Web(*many_jobs(16, queues))
            plan = Plan(web, depth=2, waits=[(one, other, 3) for one in web.jobs for other in web.jobs])
            self.assertEqual(plan.ties, oracles.ties(plan))
            self.assertEqual(len(plan), 256)


class TestRandomSharings(unittest.TestCase):
    def test_the_order_means_nothing(self):
        rng = rng_of(4)
        for _ in range(200):
            web = random_web(rng)
            sharing = list(random_sharing(rng, web))
            plan = Plan(web, sharing=tuple(sharing))
            rng.shuffle(sharing)
            mixed = [(count, tuple(rng.sample(members, len(members)))) for count, members in sharing]
            self.assertEqual(Plan(web, sharing=tuple(mixed)), plan)
            self.assertEqual(Plan(web, sharing=plan.sharing), plan)
            firsts = [members[0] for _, members in plan.sharing]
            self.assertEqual(firsts, sorted(firsts))
            for _, members in plan.sharing:
                self.assertEqual(members, tuple(sorted(members)))


if __name__ == "__main__":
    unittest.main()
