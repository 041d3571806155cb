import unittest

from everframe.changecheck import check_changes
from everframe.costs import cost_table
from everframe.errors import Standstill, Unsettled
from everframe.joining import side_by_side
from everframe.plans import Plan
from everframe.states import fewest_changes
from everframe.webs import Web
from tests import oracles
from tests.samples import E1, E2, G2, ODD, P1, P2, caught, many_jobs, random_plan, random_web, rng_of, told
from tests.slowchecks import fault_of_changes, spoiled
from tests.slowstates import random_wishes, slow_rows

WISHES = {("w", "h"): "target", ("v", "h"): "sample", ("t", "x"): "target", ("y", "x"): "sample"}
PRICES = (("h", 0, 0, 0, 1), ("x", 0, 0, 0, 1))
RIGHT = ("changes", 2, 4, G2, PRICES)
STILL = Plan(E1, waits=(("d", "a", 0), ("a", "d", 0)))
# a kept buffer between two others
MIXED = Plan(Web(
    ("a", 0, (("make", "f"),)), ("b", 0, (("read", "f", 0),)), ("c", 0, (("keep", "g"),)),
    ("d", 0, (("read", "g", 0),)),
    ("e", 0, (("make", "i"),)), ("j", 0, (("read", "i", 0),)),
))
OUT = {("a", "f"): "out", ("c", "g"): "out", ("e", "i"): "in"}


def turned(rng, sharing):
    """The same sharing with its groups and members in another order and with other shifts."""
    groups = []
    for count, members in sharing:
        by = rng.randrange(count)
        others = [(name, (shift + by) % count) for name, shift in members]
        rng.shuffle(others)
        groups.append((count, tuple(others)))
    rng.shuffle(groups)
    return tuple(groups)


class TestRight(unittest.TestCase):
    def test_example(self):
        self.assertEqual(told(check_changes, P2, WISHES, ("changes", 2, 4, G2, (PRICES[0], ("x", 0, 0, 0, 2)))),
                         ("price", 1))
        self.assertIs(check_changes(plan=P2, wishes=WISHES, thing=RIGHT), True)

    def test_what_is_returned(self):
        rng = rng_of(231)
        checked = 0
        while checked < 60:
            plan = random_plan(rng, random_web(rng, buffers=rng.randint(0, 6), optional=rng.random() < 0.3))
            if oracles.stands_still(plan):
                continue
            wishes = random_wishes(rng, plan.web, share=0.4, names=("a", "common"))
            try:
                found = fewest_changes(plan, wishes)
            except Unsettled as error:
                self.assertEqual(caught(check_changes, plan, wishes, None), ("Unsettled", *vars(error).values()))
                continue
            if found[0] != "changes":
                self.assertEqual(told(check_changes, plan, wishes, found), ("shape", -1))
                continue
            checked += 1
            self.assertIs(check_changes(plan, wishes, found), True)
            for _ in range(3):
                other = (*found[:3], turned(rng, found[3]), found[4])
                self.assertIs(check_changes(plan, wishes, other), True)

    def test_other_prices(self):
        for prices in ((("h", 5, 5, 0, 1), ("x", 5, 5, 0, 1)), (("h", 0, 0, -7, -6), ("x", 0, 0, -7, -6)),
                       (("h", -10 ** 30, -10 ** 30, 3, 4), ("x", -10 ** 30, -10 ** 30, 3, 4))):
            self.assertIs(check_changes(P2, WISHES, ("changes", 2, 4, G2, prices)), True)
        # with h behind itself, 1 is less than the cost 2, whatever is paid
        self.assertEqual(told(check_changes, P2, WISHES, ("changes", 2, 4, G2, (("h", 0, 0, 0, 9), PRICES[1]))),
                         ("price", 1))
        self.assertEqual(told(check_changes, P2, WISHES, ("changes", 2, 4, G2, (("h", 0, 0, -8, 1), PRICES[1]))),
                         ("price", 1))

    def test_no_buffers(self):
        plan = Plan(Web(*many_jobs(2)))
        self.assertIs(check_changes(plan, {}, ("changes", 0, 0, (), ())), True)
        self.assertEqual(told(check_changes, plan, {}, ("changes", 0, 1, (), ())), ("changes", -1))
        self.assertEqual(told(check_changes, plan, {}, ("changes", 0, 1, (), (1,))), ("price", 0))


class TestReasons(unittest.TestCase):
    def check(self, plan, wishes, thing, reason):
        self.assertEqual(told(check_changes, plan, wishes, thing), reason)
        self.assertEqual(fault_of_changes(plan, slow_rows(plan, wishes), thing), reason)

    def test_shape(self):
        for thing in (
            *ODD, ("changes",), RIGHT[:4], (*RIGHT, 0), list(RIGHT), ("change", *RIGHT[1:]), (1, *RIGHT[1:]),
            ("changes", True, 4, G2, PRICES), ("changes", 2, False, G2, PRICES), ("changes", None, 4, G2, PRICES),
            ("changes", 2, "4", G2, PRICES), ("changes", 2, 4, list(G2), PRICES), ("changes", 2, 4, G2, list(PRICES)),
            ("changes", 2, 4, None, PRICES), ("slots", 2, G2, ()), ("kept", "h", "v"), ("endless", "h", "v", ("w",)),
        ):
            self.check(P2, WISHES, thing, ("shape", -1))

    def test_sharing(self):
        for sharing in ((), G2 + G2, ((2, (("h", 0),)),), ((2, (("h", 0), ("x", 2))),), ((2, (("h", 0), ("x", 0))),),
                        ((1, (("h", 0), ("x", 0))),), ((1, (("h", 0),)), (1, (("x", 0),))), ("ab",)):
            self.check(P2, WISHES, ("changes", 9, 9, sharing, (1, 2, 3)), ("sharing", -1))
        for sharing in (((1, (("f", 0), ("i", 0))), (2, (("g", 0),))), ((1, (("f", 0), ("g", 0), ("i", 0))),)):
            self.check(MIXED, OUT, ("changes", 9, 9, sharing, ()), ("sharing", -1))

    def test_needs_do_not_count(self):
        plan = Plan(E2, waits=(("w", "y", 1),), depth=3)
        found = fewest_changes(plan, {})
        self.assertIs(check_changes(plan, {}, found), True)

    def test_slots(self):
        for slots in (0, 1, 3, -2, 10 ** 39):
            self.check(P2, WISHES, ("changes", slots, 9, G2, (1, 2, 3)), ("slots", -1))

    def test_price(self):
        for prices, at in (
            ((), 0), (PRICES[:1], 1), ((*PRICES, PRICES[1]), 2), ((*PRICES, None), 2), (PRICES[::-1], 0), ((1, 2), 0),
            ((PRICES[0], 2), 1), ((PRICES[0], PRICES[0]), 1), ((PRICES[0], list(PRICES[1])), 1),
            ((("h", 0, 0, 0), PRICES[1]), 0),
            ((("h", 0, 0, 0, 1, 1), PRICES[1]), 0), ((("h", False, 0, 0, 1), PRICES[1]), 0),
            ((("h", 0, 0, 0, True), PRICES[1]), 0), ((("h", 0, 0, None, 1), PRICES[1]), 0),
            ((("h", 0, "0", 0, 1), PRICES[1]), 0),
            # h behind itself costs 2, x behind itself 1
            ((("h", 0, 2, 0, 1), PRICES[1]), 0), ((("h", 0, 1, 0, 2), PRICES[1]), 0),
            ((PRICES[0], ("x", 0, 1, 0, 0)), 1),
            ((PRICES[0], ("x", 0, 0, 0, 2)), 1), ((PRICES[0], ("x", 1, 1, 0, 1)), 1),
            ((PRICES[0], ("x", -1, -1, 0, 1)), 1),
            ((PRICES[0], ("x", 0, 0, 1, 2)), 1), ((PRICES[0], ("x", 0, 0, -1, 0)), 1),
        ):
            self.check(P2, WISHES, ("changes", 2, 9, G2, prices), ("price", at))
        self.check(P2, {}, ("changes", 2, 9, G2, PRICES), ("price", 1))

    def test_prices_of_kept_buffers_and_other_sizes(self):
        sharing = ((1, (("f", 0), ("i", 0))), (1, (("g", 0),)))
        found = fewest_changes(MIXED, OUT)
        self.assertEqual([found[1:4], [row[0] for row in found[4]]], [(2, 6, sharing), ["f", "i"]])
        for prices, at in (
            ((found[4][0], ("g", 0, 0, 0, 1), found[4][1]), 1), ((("g", 0, 0, 0, 1), *found[4]), 0),
            ((*found[4], ("g", 0, 0, 0, 1)), 2),
        ):
            self.check(MIXED, OUT, ("changes", 2, 6, sharing, prices), ("price", at))
        jobs = [(job, MIXED.web.queue_of(job), MIXED.web.uses(job)) for job in MIXED.web.jobs]
        apart = Plan(Web(*jobs, sizes={"i": 7}))
        sharing = ((1, (("f", 0),)), (1, (("g", 0),)), (1, (("i", 0),)))
        # far from one another, as they are not compared
        prices = (("f", 0, 0, 0, 1), ("i", 90, 90, 50, 51))
        self.assertIs(check_changes(apart, OUT, ("changes", 3, 6, sharing, prices)), True)
        self.check(MIXED, OUT, ("changes", 3, 6, sharing, prices), ("price", 1))

    def test_changes(self):
        for changes in (0, 3, 5, -4, 10 ** 39):
            self.check(P2, WISHES, ("changes", 2, changes, G2, PRICES), ("changes", -1))
        # four changes for the sharing with three slots, too
        wide = ((3, (("h", 0), ("x", 1))),)
        self.check(P2, WISHES, ("changes", 3, 3, wide, PRICES), ("changes", -1))

    def test_sum(self):
        wide = ((3, (("h", 0), ("x", 1))),)
        self.check(P2, WISHES, ("changes", 3, 4, wide, PRICES), ("sum", -1))
        for prices in ((("h", 0, -1, 0, 1), PRICES[1]), (("h", 0, 0, 0, 0), PRICES[1]), (PRICES[0], ("x", 0, -1, 0, 1)),
                       (PRICES[0], ("x", 0, 0, 0, 0)), (("h", 0, 1, 0, 0), ("x", 1, 0, 0, 0))):
            self.check(P2, WISHES, ("changes", 2, 4, G2, prices), ("sum", -1))

    def test_a_sharing_with_more_changes(self):
        # alone in their slots p and q keep their states, in one slot each follows the other
        web = Web(("a", 0, (("make", "p"), ("make", "q"))), ("b", 0, (("read", "p", 0), ("read", "q", 0))))
        plan = Plan(web)
        wishes = {("a", "p"): "one", ("b", "p"): "one"}
        best = fewest_changes(plan, wishes)
        self.assertEqual(best[1:3], (2, 0))
        mixed = ((2, (("p", 0), ("q", 1))),)
        self.check(plan, wishes, ("changes", 2, 0, mixed, best[4]), ("changes", -1))
        self.check(plan, wishes, ("changes", 2, 2, mixed, best[4]), ("sum", -1))

    def test_three_buffers_that_live_in_the_same_frame(self):
        # in one slot p comes first, then r, then q
        plan = Plan(Web(
            ("a", 0, (("make", "p"),)), ("b", 0, (("read", "p", 0),)), ("c", 0, (("make", "r"),)),
            ("d", 0, (("read", "r", 0),)), ("e", 0, (("make", "q"),)), ("f", 0, (("read", "q", 0),)),
        ))
        sharing = ((1, (("p", 0), ("q", 0), ("r", 0))),)
        for states, changes in (("abbcca", 3), ("aabbcc", 3), ("abacac", 6), ("abcabc", 6), ("acabba", 4)):
            pairs = (("a", "p"), ("b", "p"), ("c", "r"), ("d", "r"), ("e", "q"), ("f", "q"))
            wishes = dict(zip(pairs, states))
            found = fewest_changes(plan, wishes)
            self.assertEqual(found[1:4], (1, changes, sharing))
            self.assertIs(check_changes(plan, wishes, found), True)
            for other in range(8):
                reason = ("changes", -1) if other != changes else True
                self.assertEqual(told(check_changes, plan, wishes, ("changes", 1, other, sharing, found[4])), reason)
        # beside other frames: a group of three slots
        wide = ((3, (("p", 0), ("q", 1), ("r", 0))),)
        for changes in range(8):
            reason = ("sum", -1) if changes == 4 else ("changes", -1)
            self.check(plan, wishes, ("changes", 3, changes, wide, found[4]), reason)

    def test_buffers_without_a_cost(self):
        both = side_by_side(P1, P2)
        wishes = {("e", "s"): "out", ("w", "h"): "target"}
        found = fewest_changes(both, wishes)
        self.assertIn(None, [row[2] for row in cost_table(both)])
        self.assertIs(check_changes(both, wishes, found), True)
        # prices of buffers without a cost are not compared
        prices = [
            (name, first, last, low, high) if name in "prs" else (name, first + 99, last + 99, low - 9, high - 9)
            for name, first, last, low, high in found[4]
        ]
        self.assertIs(check_changes(both, wishes, (*found[:4], tuple(prices))), True)
        self.assertIsNone(fault_of_changes(both, slow_rows(both, wishes), (*found[:4], tuple(prices))))

    def test_random_values(self):
        rng = rng_of(232)
        reasons = set()
        tried = 0
        while tried < 120:
            plan = random_plan(rng, random_web(rng, buffers=rng.randint(1, 4), optional=rng.random() < 0.2))
            if oracles.stands_still(plan):
                continue
            wishes = random_wishes(rng, plan.web, share=0.4, names=("a", "common"))
            thing = caught(fewest_changes, plan, wishes) or fewest_changes(plan, wishes)
            if thing[0] != "changes":
                continue
            tried += 1
            rows = slow_rows(plan, wishes)
            for _ in range(12):
                other = spoiled(rng, spoiled(rng, thing) if rng.random() < 0.3 else thing)
                expected = fault_of_changes(plan, rows, other)
                self.assertEqual(told(check_changes, plan, wishes, other), expected or True)
                reasons.add(expected and expected[0])
        self.assertEqual(reasons, {"shape", "sharing", "slots", "price", "changes", "sum", None})


class TestErrors(unittest.TestCase):
    def test_unsettled_and_standstill_go_ahead(self):
        wishes = {("b", "r"): "sample", ("d", "r"): "copy"}
        for thing in (None, RIGHT, ("changes", 0, 0, (), ())):
            self.assertEqual(caught(check_changes, P1, wishes, thing), ("Unsettled", "r", "b", "d"))
            with self.assertRaises(Standstill) as error:
                check_changes(STILL, wishes, thing)
            self.assertTrue(oracles.is_ring(STILL, error.exception.ring))
        self.assertEqual(told(check_changes, P1, {}, None), ("shape", -1))

    def test_after_changes(self):
        plan = Plan(E2, waits=P2.waits)
        self.assertIs(check_changes(plan, WISHES, RIGHT), True)
        plan.sharing = ((7, (("h", 3), ("x", 5))),)
        self.assertIs(check_changes(plan, WISHES, RIGHT), True)
        plan.depth = 1
        self.assertEqual(told(check_changes, plan, WISHES, RIGHT) is True,
                         fault_of_changes(plan, slow_rows(plan, WISHES), RIGHT) is None)
        plan.waits = ()
        self.assertIs(check_changes(plan, WISHES, fewest_changes(plan, WISHES)), True)
        plan.depth = None
        self.assertEqual(caught(check_changes, plan, WISHES, RIGHT), ("Unsettled", "h", "w", "v"))
        self.assertEqual(plan.sharing, ((7, (("h", 3), ("x", 5))),))

    def test_wishes_in_any_order(self):
        self.assertIs(check_changes(P2, dict(reversed(list(WISHES.items()))), RIGHT), True)


if __name__ == "__main__":
    unittest.main()
