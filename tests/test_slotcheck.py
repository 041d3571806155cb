import unittest

from everframe.errors import Standstill
from everframe.plans import Plan
from everframe.slotcheck import check_slots
from everframe.slots import fewest_slots
from everframe.webs import Web
from tests import oracles
from tests.samples import E1, E2, G2, ODD, P1, P2, many_jobs, random_plan, random_web, rng_of, told
from tests.slowchecks import fault_of_slots, kept, spoiled

K = Web(("w", 0, (("keep", "h"),)), ("v", 1, (("read", "h", 1),)))
HELD = Plan(K, waits=(("v", "w", 1), ("w", "v", 0)))
LATE = Plan(K, waits=(("v", "w", 1), ("w", "v", 1)))
LOOSE = Plan(E2, waits=(("v", "w", 1),))
CROWD = (("h", 0, 1), ("x", 1, 0))
STILL = Plan(E1, waits=(("d", "a", 0), ("a", "d", 0)))
# a kept buffer between two others
MIXED = Web(
    ("a", 0, (("make", "f"),)), ("b", 0, (("read", "f", 0),)), ("c", 0, (("keep", "g"),)),
    ("d", 0, (("read", "g", 0),)),
    ("e", 0, (("make", "i"),)), ("j", 0, (("read", "i", 0),)),
)


class TestRight(unittest.TestCase):
    def test_examples(self):
        self.assertIs(check_slots(P2, ("slots", 2, G2, CROWD)), True)
        self.assertEqual(told(check_slots, P2, ("endless", "h", "v", ("w",))), ("jobs", -1))
        self.assertEqual(told(check_slots, P2, ("slots", 2, G2, (("h", 0, 1), ("x", 0, -1)))), ("crowd", 1))

    def test_each_answer(self):
        for plan, word in ((P1, "slots"), (P2, "slots"), (LOOSE, "endless"), (LATE, "kept"), (HELD, "slots"),
                           (Plan(Web(*many_jobs(3))), "slots"), (Plan(MIXED), "slots")):
            found = fewest_slots(plan)
            self.assertEqual(found[0], word)
            self.assertIs(check_slots(plan=plan, thing=found), True)

    def test_random_plans(self):
        rng = rng_of(211)
        words = []
        for _ in range(250):
            plan = random_plan(rng, random_web(rng, buffers=rng.randint(0, 7)))
            if not oracles.stands_still(plan):
                found = fewest_slots(plan)
                self.assertIs(check_slots(plan, found), True)
                words.append(found[0])
        self.assertTrue(min(words.count(word) for word in ("slots", "endless", "kept")) > 10)

    def test_sharings_in_any_order_and_with_any_shifts(self):
        for sharing in (((2, (("x", 1), ("h", 0))),), ((2, (("x", 0), ("h", 1))),), ((2, (("h", 1), ("x", 0))),)):
            self.assertIs(check_slots(P2, ("slots", 2, sharing, CROWD)), True)
        sharing = ((1, (("i", 0), ("f", 0))), (1, (("g", 0),)))
        self.assertIs(check_slots(Plan(MIXED), ("slots", 2, sharing, fewest_slots(Plan(MIXED))[3])), True)
        self.assertIs(check_slots(Plan(MIXED), ("slots", 2, sharing[::-1], fewest_slots(Plan(MIXED))[3])), True)

    def test_other_crowds(self):
        for crowd in ((("h", 5, 6), ("x", 6, 5)), (("h", 0, 1), ("x", 2, 1))):
            self.assertEqual(told(check_slots, P2, ("slots", 2, G2, crowd)),
                             fault_of_slots(P2, ("slots", 2, G2, crowd)) or True)
        self.assertIs(check_slots(P2, ("slots", 2, G2, (("h", 10 ** 30, 10 ** 30 + 1),
                                                        ("x", 10 ** 30 + 1, 10 ** 30)))), True)

    def test_other_right_answers_of_endless(self):
        web = Web(
            ("m", 0, (("make", "b"), ("make", "c"))), ("n", 1, ()), ("u", 2, (("read", "b", 0), ("read", "c", 0))),
            ("z", 3, (("read", "c", 1),)),
        )
        plan = Plan(web)
        for thing in (("endless", "b", "u", ("m",)), ("endless", "c", "u", ("m",)), ("endless", "c", "z", ("m",)),
                      ("endless", "c", "z", ("m", "n")), ("endless", "c", "z", ("m", "u")),
                      ("endless", "c", "u", ("m", "n", "z"))):
            self.assertIs(check_slots(plan, thing), True)
        self.assertEqual(fewest_slots(plan), ("endless", "b", "u", ("m",)))

    def test_other_right_users_of_kept(self):
        web = Web(("k", 0, (("keep", "h"), ("read", "h", 1))), ("b", 1, (("read", "h", 0),)),
                  ("c", 2, (("read", "h", 0),)))
        plan = Plan(web)
        for user in "kbc":
            self.assertIs(check_slots(plan, ("kept", "h", user)), True)
        plan.waits = (("k", "b", 1),)
        self.assertEqual(told(check_slots, plan, ("kept", "h", "b")), ("user", -1))
        # its own read of the frame before is 1 - (-1) frames late
        self.assertIs(check_slots(plan, ("kept", "h", "k")), True)


class TestReasons(unittest.TestCase):
    def check(self, plan, thing, reason):
        self.assertEqual(told(check_slots, plan, thing), reason)
        self.assertEqual(fault_of_slots(plan, thing), reason)

    def test_shape(self):
        for thing in (
            *ODD, ("slots",), ("slots", 2, G2), ("slots", 2, G2, CROWD, 0), ("slots", True, G2, CROWD),
            ("slots", None, G2, CROWD), ("slots", 2, list(G2), CROWD), ("slots", 2, G2, list(CROWD)),
            ["slots", 2, G2, CROWD], ("endless", "h", "v"), ("endless", "h", "v", ["w"]), ("endless", 1, "v", ("w",)),
            ("endless", "h", ("v",), ("w",)), ("endless", "h", "v", ("w",), ()), ("kept", "h"), ("kept", "h", "v", ()),
            ("kept", None, "v"), ("kept", "h", 7), ("slot", 2, G2, CROWD), (1, "h", "v"), ((), "h", "v"),
        ):
            self.check(P2, thing, ("shape", -1))

    def test_sharing(self):
        for sharing in ((), G2 + G2, ((2, (("h", 0),)),), ((0, (("h", 0), ("x", 0))),), ((2, (("h", 0), ("x", 2))),),
                        ((True, (("h", 0), ("x", 0))),), (1, 2), ("ab",), ((2, [("h", 0), ("x", 1)]),), (G2[0], G2[0])):
            # beside wrong reasons that come later
            self.check(P2, ("slots", 9, sharing, (1, 2, 3)), ("sharing", -1))
        two = Plan(Web(*[(job, E2.queue_of(job), E2.uses(job)) for job in E2.jobs], sizes={"x": 2}), waits=P2.waits)
        self.check(two, ("slots", 2, G2, CROWD), ("sharing", -1))

    def test_clash(self):
        for sharing, at in (
            (((2, (("h", 0), ("x", 0))),), 0), (((1, (("h", 0), ("x", 0))),), 0),
            (((1, (("h", 0),)), (1, (("x", 0),))), 0),
        ):
            self.check(P2, ("slots", 9, sharing, ()), ("clash", at))
        # only the last one of E1's buffers has too few slots if s is read of frames before
        web = Web(("a", 0, (("make", "f"),)), ("b", 0, (("read", "f", 0),)), ("c", 0, (("make", "g"),)),
                  ("d", 0, (("read", "g", 1),)))
        self.check(Plan(web), ("slots", 9, ((1, (("f", 0),)), (1, (("g", 0),))), ()), ("clash", 1))
        self.check(Plan(web), ("slots", 9, ((1, (("f", 0), ("g", 0))),), ()), ("clash", 0))

    def test_clash_of_kept_buffers(self):
        for sharing, at in (
            (((1, (("f", 0), ("i", 0))), (2, (("g", 0),))), 1), (((1, (("f", 0),)), (1, (("g", 0), ("i", 0)))), 1),
            (((1, (("f", 0), ("g", 0), ("i", 0))),), 1), (((2, (("g", 1),)), (1, (("f", 0),)), (1, (("i", 0),))), 1),
        ):
            self.check(Plan(MIXED), ("slots", 9, sharing, ()), ("clash", at))

    def test_crowd(self):
        for crowd, at in (
            ((), 2), (CROWD[:1], 2), ((*CROWD, ("x", 1, 0)), 2), ((*CROWD, 7), 2), (CROWD[::-1], 0), ((1, 2), 0),
            ((("h", 0, 1), 2), 1), ((("h", 0, 1), ("h", 0, 1)), 1), ((("h", 0, 1), ["x", 1, 0]), 1),
            ((("h", 0, 1, 2), ("x", 1, 0)), 0), ((("h", 0), ("x", 1, 0)), 0), ((("h", False, 1), ("x", 1, 0)), 0),
            ((("h", 0, True), ("x", 1, 0)), 0), ((("h", -1, 0), ("x", 0, -1)), 0), ((("h", 0, 1), ("x", 1, -1)), 1),
            ((("h", 0, 2), ("x", 1, 0)), 0), ((("h", 0, 1), ("x", 1, 1)), 1), ((("h", 0, 1), ("x", 0, -1)), 1),
            ((("h", 2, 1), ("x", 0, 5)), 1), ((("h", 0, -2), ("x", 0, -1)), 0),
        ):
            self.check(P2, ("slots", 9, G2, crowd), ("crowd", at))

    def test_crowd_of_other_sizes_and_of_kept_buffers(self):
        jobs = [(job, MIXED.queue_of(job), MIXED.uses(job)) for job in MIXED.jobs]
        sharing = ((1, (("f", 0),)), (1, (("g", 0),)), (1, (("i", 0),)))
        crowd = (("f", 0, 0), ("g", 0, 0), ("i", 0, 0))
        self.check(Plan(MIXED), ("slots", 3, sharing, crowd), ("crowd", 2))
        # with other sizes f and i are not compared, and g is compared with none
        plan = Plan(Web(*jobs, sizes={"i": 2}))
        self.assertIs(check_slots(plan, ("slots", 3, sharing, crowd)), True)
        self.assertIs(check_slots(plan, ("slots", 3, sharing, (("f", 7, 7), ("g", 0, 0), ("i", 90, 90)))), True)
        for entry in (("g", 1, 1), ("g", 0, -1), ("g", 0, 1), ("g", False, 0), ("g", 0), ("f", 0, 0)):
            self.check(plan, ("slots", 3, sharing, (("f", 0, 0), entry, ("i", 0, 0))), ("crowd", 1))

    def test_fewest(self):
        for many in (0, 1, 3, -2, 10 ** 39):
            self.check(P2, ("slots", many, G2, CROWD), ("fewest", -1))
        # a crowd that is too small, a sharing that is too great
        self.check(P2, ("slots", 2, G2, (("h", 0, 0), ("x", 1, 0))), ("fewest", -1))
        wide = ((3, (("h", 0), ("x", 1))),)
        for many in (2, 3):
            self.check(P2, ("slots", many, wide, CROWD), ("fewest", -1))

    def test_endless_buffer(self):
        for buffer in ("w", "q", "", "H", "hh"):
            self.check(LOOSE, ("endless", buffer, "nobody", (1, 2)), ("buffer", -1))
        self.check(LATE, ("endless", "h", "v", ("w",)), ("buffer", -1))

    def test_endless_user(self):
        for user in ("t", "y", "h", "", "q"):
            self.check(LOOSE, ("endless", "h", user, (1, 2)), ("user", -1))

    def test_endless_jobs(self):
        self.assertIs(check_slots(LOOSE, ("endless", "h", "v", ("w",))), True)
        for jobs in ((), ("v",), ("w", "v"), ("v", "w"), ("w", "w"), ("t", "w"), ("w", "y"), ("t", "v", "w", "y"),
                     ("w", 1), (1,), (None,), (["w"],), ("h", "w"), ("w", ""), ("t", "w", "y")):
            self.check(LOOSE, ("endless", "h", "v", jobs), ("jobs", -1))
        # the maker among its own users
        self.check(LOOSE, ("endless", "h", "w", ("w",)), ("jobs", -1))
        # x has a cost, but the certificate is looked at
        self.check(LOOSE, ("endless", "x", "y", ("t",)), ("jobs", -1))

    def test_kept_buffer(self):
        for buffer in ("w", "v", "q", ""):
            self.check(LATE, ("kept", buffer, "nobody"), ("buffer", -1))
        self.check(P2, ("kept", "h", "v"), ("buffer", -1))

    def test_kept_user(self):
        self.assertIs(check_slots(LATE, ("kept", "h", "v")), True)
        for user in ("w", "h", "", "q"):
            self.check(LATE, ("kept", "h", user), ("user", -1))
        self.check(HELD, ("kept", "h", "v"), ("user", -1))

    def test_random_values(self):
        rng = rng_of(212)
        reasons = set()
        for _ in range(120):
            plan = random_plan(rng, random_web(rng, buffers=rng.randint(1, 4)))
            if oracles.stands_still(plan):
                continue
            thing = fewest_slots(plan)
            for _ in range(12):
                other = spoiled(rng, spoiled(rng, thing) if rng.random() < 0.3 else thing)
                expected = fault_of_slots(plan, other)
                self.assertEqual(told(check_slots, plan, other), expected or True)
                reasons.add(expected and expected[0])
        self.assertEqual(reasons, {"shape", "sharing", "clash", "crowd", "fewest", "buffer", "user", "jobs", None})


class TestErrors(unittest.TestCase):
    def test_standstill(self):
        for thing in (*ODD, ("slots", 2, G2, CROWD), ("kept", "h", "v")):
            with self.assertRaises(Standstill) as error:
                check_slots(STILL, thing)
            self.assertTrue(oracles.is_ring(STILL, error.exception.ring))

    def test_after_changes(self):
        plan = Plan(E2)
        self.assertIs(check_slots(plan, ("endless", "h", "v", ("w",))), True)
        plan.depth = 1
        self.assertEqual(told(check_slots, plan, ("endless", "h", "v", ("w",))), ("jobs", -1))
        self.assertIs(check_slots(plan, fewest_slots(plan)), True)
        plan.depth = None
        plan.waits = (("w", "v", 0), ("v", "w", 0))
        self.assertRaises(Standstill, check_slots, plan, fewest_slots(P2))
        plan.waits = P2.waits
        self.assertIs(check_slots(plan, ("slots", 2, G2, CROWD)), True)
        plan.rows = {1: ("y", "t", "v")}
        self.assertEqual(told(check_slots, plan, ("slots", 2, G2, CROWD)),
                         fault_of_slots(plan, ("slots", 2, G2, CROWD)))
        self.assertEqual(kept(plan.web), [])

    def test_nothing_is_changed(self):
        plan = Plan(E2, waits=P2.waits, sharing=((7, (("h", 3), ("x", 5))),))
        before = plan.twin()
        check_slots(plan, ("slots", 2, G2, CROWD))
        told(check_slots, plan, ("slots", 2, G2 + G2, CROWD))
        told(check_slots, plan, ("slots", 2, ((1, (("h", 0), ("x", 0))),), CROWD))
        self.assertEqual(plan, before)


if __name__ == "__main__":
    unittest.main()
