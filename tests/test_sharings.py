import unittest

from everframe.errors import InvalidSharing, NoBuffer
from everframe.plans import Plan
from everframe.sharings import apart, is_sharing, slot_of
from everframe.webs import Web
from tests import oracles
from tests.samples import C, E1, E2, G2, ODD, P1, P2, bare, caught, random_plan, random_sharing, random_web, rng_of

SIZED = Web(
    ("a", 0, (("make", "p"), ("make", "q"), ("make", "r"))),
    ("b", 0, (("read", "p", 0), ("read", "q", 0), ("read", "r", 0))),
    sizes={"q": 2, "r": 2},
)
FAR = 10 ** 30


class TestIsSharing(unittest.TestCase):
    def test_example(self):
        told = [
            is_sharing(E2, G2), is_sharing(E2, G2 + G2), is_sharing(E2, ((1, (("h", 0), ("x", 1))),)),
            is_sharing(E2, ()),
        ]
        self.assertEqual(told, [True, False, False, False])
        self.assertIs(is_sharing(web=E2, thing=G2), True)

    def test_any_order(self):
        groups = ((2, (("r", 1), ("p", 0))), (7, (("s", 6),)))
        for thing in (groups, groups[::-1], ((2, (("p", 0), ("r", 1))), groups[1])):
            self.assertIs(is_sharing(E1, thing), True)

    def test_things_of_any_kind(self):
        for thing in ODD:
            self.assertIs(is_sharing(E2, thing), False)
            self.assertIs(is_sharing(E2, (thing,)), False)
            self.assertIs(is_sharing(E2, (thing, *G2)), False)
            self.assertIs(is_sharing(E2, (*G2, thing)), False)
            self.assertIs(is_sharing(E2, ((2, thing),)), False)
            self.assertIs(is_sharing(E2, ((2, (thing, ("x", 1))),)), False)
            self.assertIs(is_sharing(E2, ((2, (("h", 0), (thing, 1))),)), False)
            if thing != 5:
                self.assertIs(is_sharing(E2, ((thing, (("h", 0), ("x", 0))),)), False)
                self.assertIs(is_sharing(E2, ((200, (("h", 0), ("x", thing))),)), False)

    def test_lists_in_place_of_tuples(self):
        for thing in (
            list(G2), ([2, (("h", 0), ("x", 1))],), ((2, [("h", 0), ("x", 1)]),), ((2, (["h", 0], ("x", 1))),),
            (2, (("h", 0), ("x", 1))), ((2, (("h", 0), ("x", 1)), 0),), ((2, (("h", 0, 0), ("x", 1))),), ((2,),),
        ):
            self.assertIs(is_sharing(E2, thing), False)

    def test_counts_and_shifts(self):
        for count, shift, right in (
            (1, 0, True), (200, 0, True), (200, 199, True), (0, 0, False), (201, 0, False), (-1, 0, False),
            (1, 1, False), (200, 200, False), (2, -1, False), (2, 2, False), (True, 0, False), (1, False, False),
            (10 ** 39, 0, False), (200, 10 ** 39, False), ("1", 0, False), (None, 0, False), (1, None, False),
        ):
            self.assertIs(is_sharing(C, ((count, (("h", shift),)),)), right)

    def test_buffers(self):
        for thing, right in (
            (((1, (("h", 0),)), (1, (("x", 0),))), True), (((1, (("h", 0),)),), False),
            (((2, (("h", 0), ("h", 1))), (1, (("x", 0),))), False), (((1, (("h", 0),)), *G2), False),
            (((2, (("h", 0), ("x", 1), ("w", 0))),), False), (((1, ()), *G2), False),
            (((1, (("h", 0),)), (1, (("y", 0),))), False),
        ):
            self.assertIs(is_sharing(E2, thing), right)

    def test_sizes(self):
        for thing, right in (
            (((1, (("p", 0),)), (2, (("q", 0), ("r", 1)))), True),
            (((2, (("p", 0), ("q", 1))), (1, (("r", 0),))), False),
            (((3, (("p", 0), ("q", 1), ("r", 2))),), False), (((2, (("r", 0), ("q", 1))), (1, (("p", 0),))), True),
        ):
            self.assertIs(is_sharing(SIZED, thing), right)

    def test_no_buffers(self):
        web = Web(bare("a", 0))
        self.assertEqual([is_sharing(web, ()), is_sharing(web, None), is_sharing(web, []), is_sharing(web, G2)],
                         [True, False, False, False])

    def test_as_plans_take_them(self):
        rng = rng_of(71)
        seen = []
        for _ in range(300):
            web = random_web(rng)
            thing = random_sharing(rng, random_web(rng) if rng.random() < 0.2 else web)
            if thing and rng.random() < 0.3:
                thing = thing[1:]
            right = caught(lambda: Plan(web, sharing=thing)) is None
            self.assertIs(is_sharing(web, thing), right)
            seen.append(right)
        self.assertTrue(30 < sum(seen) < 270)


class TestApart(unittest.TestCase):
    def test_example(self):
        self.assertEqual([apart(E2, {"h": 2}), apart(E2)], [
            ((2, (("h", 0),)), (1, (("x", 0),))), ((1, (("h", 0),)), (1, (("x", 0),))),
        ])

    def test_counts(self):
        one = ((1, (("p", 0),)), (1, (("r", 0),)), (1, (("s", 0),)))
        for counts in (None, {}, {"p": 1}, {"s": 1, "r": 1, "p": 1}):
            self.assertEqual(apart(web=E1, counts=counts), one)
        self.assertEqual(apart(E1, {"s": 200, "p": 3}), ((3, (("p", 0),)), (1, (("r", 0),)), (200, (("s", 0),))))
        self.assertEqual(Plan(E1).sharing, one)
        self.assertEqual(apart(Web(bare("a", 0))), ())
        self.assertTrue(is_sharing(SIZED, apart(SIZED, {"q": 5})))

    def test_wrong_counts(self):
        for value in (*ODD, 0, 201, -1, (1,), "1"):
            if value == 5:
                continue
            self.assertEqual(caught(apart, E1, {"s": value}), ("InvalidSharing", 2))
            self.assertEqual(caught(apart, E1, {"s": 0, "r": value}), ("InvalidSharing", 1))
            self.assertEqual(caught(apart, E1, {"s": 0, "r": 201, "p": value}), ("InvalidSharing", 0))
        self.assertRaises(InvalidSharing, apart, E1, {"s": 0})

    def test_names_that_are_no_buffers(self):
        self.assertEqual(caught(apart, E1, {"z": 1, "q": 0, "r": None, "t": 1}), ("NoBuffer", "q"))
        for name in ("", "a", "R", "zz", "r ", "a" * 4000):
            self.assertEqual(caught(apart, E1, {"zzz": 1, name: [], "p": 0}), ("NoBuffer", name))
        self.assertEqual(caught(apart, E1, {"s": 0, "a": 1}), ("NoBuffer", "a"))
        self.assertEqual(caught(apart, Web(bare("a", 0)), {"a": 1}), ("NoBuffer", "a"))
        self.assertRaises(NoBuffer, apart, E1, {"a": 1})

    def test_what_is_passed_stays(self):
        counts = {"s": 2, "p": 1}
        apart(E1, counts)
        self.assertEqual(list(counts.items()), [("s", 2), ("p", 1)])


class TestSlotOf(unittest.TestCase):
    def test_example(self):
        self.assertEqual([slot_of(P2, "h", 0), slot_of(P2, "x", 1), slot_of(P2, "x", 10 ** 30)],
                         [(0, 0), (0, 0), (0, 1)])

    def test_groups_and_shifts(self):
        plan = Plan(E1, sharing=((3, (("s", 2),)), (200, (("r", 0), ("p", 199)))))
        self.assertEqual([slot_of(plan, "p", 0), slot_of(plan, "r", 0), slot_of(plan, "s", 0)],
                         [(0, 199), (0, 0), (1, 2)])
        self.assertEqual([slot_of(plan=plan, buffer="p", frame=1), slot_of(plan, "r", 399), slot_of(plan, "s", 5)],
                         [(0, 0), (0, 199), (1, 1)])
        self.assertEqual([slot_of(plan, "s", FAR), slot_of(plan, "r", FAR), slot_of(plan, "p", FAR)],
                         [(1, (1 + 2) % 3), (0, 0), (0, 199)])

    def test_random_plans(self):
        rng = rng_of(72)
        for _ in range(60):
            plan = random_plan(rng)
            for buffer in plan.web.buffers:
                for frame in (0, 1, 7, rng.randrange(FAR), FAR):
                    self.assertEqual(slot_of(plan, buffer, frame), oracles.home(plan, buffer, frame))

    def test_after_changes(self):
        plan = Plan(E2)
        self.assertEqual(slot_of(plan, "x", 3), (1, 0))
        plan.sharing = G2
        self.assertEqual(slot_of(plan, "x", 3), (0, 0))

    def test_names_of_any_kind(self):
        for value in (*ODD, "w", "zz", P1):
            with self.assertRaises(NoBuffer) as error:
                slot_of(P2, value, 0)
            self.assertIs(error.exception.name, value)


if __name__ == "__main__":
    unittest.main()
