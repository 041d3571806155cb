import unittest
from fractions import Fraction
from math import gcd

from everframe.errors import Standstill
from everframe.plans import Plan
from everframe.speeds import check_period, first_starts, least_period
from everframe.webs import Web
from tests import oracles
from tests.samples import E1, E2, ODD, P1, P2, bare, caught, many_jobs, random_plan, random_web, rng_of
from tests.slowchecks import spoiled

STILL = Plan(E1, waits=(("d", "a", 0), ("a", "d", 0)))
RING = (("a", "b", 0), ("b", "c", 0), ("c", "f", 0), ("f", "a", -1))
STARTS = (0, 1, 2, 1, 2, 3)
RIGHT = (4, 1, RING, STARTS)
ABC = Plan(Web(bare("a", 0), bare("b", 1), bare("c", 2)), waits=(("b", "a", 0), ("c", "b", 0), ("a", "c", 2)))


def all_rings(plan):
    """All rings of a plan, each once for each tie with which it may begin."""
    links = oracles.ties(plan)
    found = []
    rest = [(tie,) for tie in links]
    while rest:
        found.extend(one for one in rest if one[-1][1] == one[0][0])
        rest = [
            (*one, tie) for one in rest for tie in links
            if tie[0] == one[-1][1] and tie[0] not in [other[0] for other in one]
        ]
    return found


def value_of(ring, lengths):
    return Fraction(sum(lengths.get(tie[0], 1) for tie in ring), -sum(tie[2] for tie in ring))


def is_least_period(plan, lengths, thing, rings=None):
    """Whether any value is what `least_period` may return, as the document tells it."""
    if thing.__class__ is not tuple or [part.__class__ for part in thing] != [int, int, tuple, tuple]:
        return False
    top, bottom, ring, starts = thing
    if oracles.stands_still(plan) or bottom < 1 or gcd(top, bottom) != 1:
        return False
    rings = rings or all_rings(plan)
    if Fraction(top, bottom) != max(value_of(one, lengths) for one in rings):
        return False
    if not all(oracles.is_tie_of(plan, tie) for tie in ring) or ring not in rings:
        return False
    if value_of(ring, lengths) != Fraction(top, bottom):
        return False
    if len(starts) != len(plan.web) or not all(start.__class__ is int for start in starts) or min(starts) != 0:
        return False
    place = plan.web.jobs.index
    return all(
        starts[place(one)] + bottom * lengths.get(one, 1) + top * lead <= starts[place(other)]
        for one, other, lead in oracles.ties(plan)
    )


def slow_starts(plan, lengths, frames):
    """The earliest starts, each asked for by its ties."""
    known = {}
    links = oracles.ties(plan)

    def start(job, frame):
        if (job, frame) not in known:
            due = [
                start(before, frame + lead) + lengths.get(before, 1)
                for before, after, lead in links if after == job and frame + lead >= 0
            ]
            known[job, frame] = max([0, *due])
        return known[job, frame]

    return [(job, frame, start(job, frame)) for frame in range(frames) for job in plan.web.jobs]


def lively(rng, jobs=None, waits=None):
    """A random plan without a standstill and without buffers."""
    while True:
        plan = random_plan(rng, random_web(rng, jobs, 0), waits)
        if not oracles.stands_still(plan):
            return plan


def one_each(rng):
    """A plan with one job on each queue, and a ring of waits through all of them."""
    waits = [("b", "a", rng.randint(0, 4)), ("c", "b", rng.randint(0, 4)), ("d", "c", 0), ("a", "d", rng.randint(1, 4))]
    waits += [(rng.choice("abcd"), rng.choice("abcd"), rng.randint(1, 4)) for _ in range(rng.randint(0, 3))]
    return Plan(Web(*[bare(name, at) for at, name in enumerate("abcd")]), waits=waits)


def random_lengths(rng, jobs, most):
    return {job: rng.randint(1, most) for job in jobs if rng.random() < 0.8}


class TestLeastPeriod(unittest.TestCase):
    def test_examples(self):
        self.assertEqual([least_period(P1, {})[:2], least_period(P1, {"e": 5})[:2]], [(4, 1), (8, 1)])
        self.assertEqual(least_period(plan=ABC, lengths={"b": 2, "c": 2})[:2], (5, 2))
        self.assertEqual(least_period(Plan(E2), {})[:2], (3, 1))

    def test_one_ring(self):
        plan = Plan(Web(bare("a", 0)))
        for length in (1, 7, 10 ** 12):
            self.assertEqual(least_period(plan, {"a": length}), (length, 1, (("a", "a", -1),), (0,)))
        self.assertEqual(least_period(plan, {}), (1, 1, (("a", "a", -1),), (0,)))

    def test_lowest_terms(self):
        for lengths, value in (({}, (3, 2)), ({"a": 2}, (2, 1)), ({"a": 4, "b": 1, "c": 1}, (4, 1)),
                               ({"a": 5, "b": 5, "c": 5}, (15, 2)),
                               ({"a": 10 ** 12, "b": 10 ** 12, "c": 1}, (10 ** 12 * 2 + 1, 2)),
                               ({"a": 10 ** 12, "b": 10 ** 12, "c": 10 ** 12 - 1}, (3 * 10 ** 12 - 1, 2))):
            found = least_period(ABC, lengths)
            self.assertEqual(found[:2], value)
            self.assertTrue(is_least_period(ABC, lengths, found))

    def test_periods_that_are_no_integers(self):
        for back in (1, 2, 3, 4):
            plan = Plan(ABC.web, waits=(("b", "a", 0), ("c", "b", back), ("a", "c", 3)))
            found = least_period(plan, {"a": 9, "b": 7, "c": 10})
            self.assertEqual(Fraction(*found[:2]), max(Fraction(26, 3 + back), Fraction(10)))

    def test_random_plans(self):
        rng = rng_of(241)
        bottoms = []
        for _ in range(150):
            plan = lively(rng, waits=rng.randint(0, 9)) if rng.random() < 0.5 else one_each(rng)
            lengths = random_lengths(rng, plan.web.jobs, rng.choice((1, 3, 20, 10 ** 12)))
            before = (plan.twin(), dict(lengths))
            found = least_period(plan, lengths)
            self.assertTrue(is_least_period(plan, lengths, found))
            self.assertIs(check_period(plan, lengths, found), True)
            self.assertEqual(least_period(plan, lengths), found)
            self.assertEqual((plan, lengths), before)
            bottoms.append(found[1])
        self.assertTrue(len(set(bottoms)) > 1)

    def test_sixteen_jobs(self):
        rng = rng_of(242)
        for _ in range(40):
            web = Web(*many_jobs(16, 4))
            jobs = web.jobs
            share = rng.choice((0.1, 0.5, 0.9))
            waits = [
                (one, other, rng.randint(0 if one > other else 1,
                                         4)) for one in jobs for other in jobs if rng.random() < share
            ]
            plan = Plan(web, waits=waits, depth=rng.choice((None, 1, 4)))
            lengths = random_lengths(rng, jobs, rng.choice((2, 10 ** 12)))
            top, bottom, ring, starts = least_period(plan, lengths)
            # no lesser period has a timetable, as the ring tells, and this one has
            self.assertEqual(value_of(ring, lengths), Fraction(top, bottom))
            self.assertIs(check_period(plan, lengths, (top, bottom, ring, starts)), True)

    def test_rings_of_four_jobs(self):
        for back, value in ((0, (4, 1)), (1, (2, 1)), (2, (4, 3)), (3, (1, 1)), (4, (1, 1))):
            waits = [("b", "a", back), ("c", "b", 0), ("d", "c", 0), ("a", "d", 1)]
            plan = Plan(Web(*[bare(name, at) for at, name in enumerate("abcd")]), waits=waits)
            found = least_period(plan, {})
            self.assertEqual(found[:2], value)
            self.assertTrue(is_least_period(plan, {}, found))

    def test_a_ring_with_the_least_lead(self):
        web = Web(*many_jobs(8, 4))
        waits = [("jf", "ja", 4), ("jg", "jf", 4), ("jh", "jg", 4), ("ja", "jh", 4)]
        plan = Plan(web, waits=waits)
        lengths = {"ja": 10 ** 12, "jf": 10 ** 12, "jg": 10 ** 12, "jh": 10 ** 12 - 1}
        found = least_period(plan, lengths)
        self.assertTrue(is_least_period(plan, lengths, found))


class TestCheckPeriod(unittest.TestCase):
    def test_examples(self):
        self.assertIs(check_period(P1, {}, RIGHT), True)
        self.assertIs(check_period(plan=P1, lengths={}, thing=least_period(P1, {})), True)
        self.assertIs(check_period(P1, {"e": 5}, RIGHT), False)
        self.assertIs(check_period(P1, {"e": 1}, RIGHT), True)

    def test_values_of_any_kind(self):
        for thing in (
            *ODD, RIGHT[:3], (*RIGHT, 0), list(RIGHT), (True, 1, RING, STARTS), (4, True, RING, STARTS),
            ("4", 1, RING, STARTS),
            (8, 2, RING, STARTS), (-4, -1, RING, STARTS), (4, 0, RING, STARTS), (0, 1, RING, STARTS),
            (5, 1, RING, STARTS),
            (3, 1, RING, STARTS), (4, 1, list(RING), STARTS), (4, 1, RING, list(STARTS)), (4, 1, (), STARTS),
            (4, 1, RING[:3], STARTS), (4, 1, RING[::-1], STARTS), (4, 1, RING + RING, STARTS), (4, 1, (1, 2), STARTS),
            (4, 1, (("a", "b", False), *RING[1:]), STARTS), (4, 1, (list(RING[0]), *RING[1:]), STARTS),
            (4, 1, (("a", "b", 0), ("b", "c", 0), ("c", "a", -1)), STARTS), (4, 1, (("a", "a", -1),), STARTS),
            (4, 1, RING, STARTS[:5]), (4, 1, RING, (*STARTS, 0)), (4, 1, RING, (1, 2, 3, 2, 3, 4)), (4, 1, RING, ()),
            (4, 1, RING, (0, 1, 2, 1, 2, True)), (4, 1, RING, (False, 1, 2, 1, 2, 3)),
            (4, 1, RING, (0, 1, 2, 1, 2, "3")),
            (4, 1, RING, (0, 1, 2, 0, 2, 3)), (4, 1, RING, (0, 1, 2, 1, 2, 4)), (4, 1, RING, (-1, 0, 1, 0, 1, 2)),
            (None, 1, RING, STARTS), (4, None, RING, STARTS), ((), (), (), ()),
        ):
            self.assertIs(check_period(P1, {}, thing), False)
            self.assertFalse(is_least_period(P1, {}, thing))

    def test_rings_that_begin_anywhere(self):
        for at in range(4):
            self.assertIs(check_period(P1, {}, (4, 1, RING[at:] + RING[:at], STARTS)), True)
        other = (("a", "d", 0), ("d", "e", 0), ("e", "f", 0), ("f", "a", -1))
        self.assertIs(check_period(P1, {}, (4, 1, other, STARTS)), True)

    def test_fractions(self):
        lengths = {"b": 2, "c": 2}
        ring = (("a", "b", 0), ("b", "c", 0), ("c", "a", -2))
        self.assertIs(check_period(ABC, lengths, (5, 2, ring, (0, 2, 6))), True)
        for thing in ((5, 2, ring, (0, 2, 5)), (5, 2, ring, (0, 1, 6)), (10, 4, ring, (0, 4, 12)),
                      (5, 2, ring, (0, 2, 7)),
                      (5, 1, ring, (0, 1, 3)), (3, 1, ring, (0, 1, 3))):
            self.assertIs(check_period(ABC, lengths, thing), False)

    def test_random_values(self):
        rng = rng_of(243)
        told = []
        for _ in range(80):
            plan = lively(rng, jobs=rng.randint(1, 5))
            lengths = random_lengths(rng, plan.web.jobs, 4)
            rings = all_rings(plan)
            for _ in range(12):
                thing = spoiled(rng, least_period(plan, lengths))
                told.append(check_period(plan, lengths, thing))
                self.assertIs(told[-1], is_least_period(plan, lengths, thing, rings))
        self.assertTrue(told.count(True) > 10)

    def test_standstill(self):
        ring = (("a", "d", 0), ("d", "a", 0))
        for thing in (None, RIGHT, (1, 0, ring, (0,) * 6), (1, 1, ring, STARTS), (2, 0, ring, STARTS),
                      (0, 1, ring, (0, 0, 0, 0, 0, 0))):
            self.assertIs(check_period(STILL, {}, thing), False)


class TestFirstStarts(unittest.TestCase):
    def test_example(self):
        self.assertEqual(list(first_starts(P1, {}, frames=2))[:7], [
            ("a", 0, 0), ("b", 0, 1), ("c", 0, 2), ("d", 0, 1), ("e", 0, 2), ("f", 0, 3), ("a", 1, 4),
        ])
        self.assertEqual(list(first_starts(plan=P1, lengths={}, frames=0)), [])
        self.assertEqual(len(list(first_starts(P1, {}, frames=1))), 6)

    def test_rows_that_are_not_in_list_order(self):
        plan = Plan(E2, rows={1: ("y", "t", "v")}, waits=(("w", "v", 0),))
        self.assertEqual(list(first_starts(plan, {"y": 5, "t": 7}, frames=2)), [
            ("w", 0, 13), ("v", 0, 12), ("t", 0, 5), ("y", 0, 0), ("w", 1, 26), ("v", 1, 25), ("t", 1, 18),
            ("y", 1, 13),
        ])

    def test_random_plans(self):
        rng = rng_of(244)
        for _ in range(120):
            plan = lively(rng, waits=rng.randint(0, 9))
            lengths = random_lengths(rng, plan.web.jobs, rng.choice((1, 5, 10 ** 12)))
            frames = rng.randint(0, 12)
            self.assertEqual(list(first_starts(plan, lengths, frames=frames)), slow_starts(plan, lengths, frames))

    def test_a_thousand_frames(self):
        web = Web(*many_jobs(16, 4))
        plan = Plan(web, waits=[(one, other, 4) for one in web.jobs for other in web.jobs], depth=4)
        lengths = {job: 10 ** 12 - at for at, job in enumerate(web.jobs)}
        found = list(first_starts(plan, lengths, frames=1000))
        self.assertEqual(len(found), 16000)
        self.assertEqual(found[:480], slow_starts(plan, lengths, 30))
        # in the long run the frames come with the least period
        top, bottom, _, _ = least_period(plan, lengths)
        self.assertTrue(abs(found[-16][2] * bottom - 999 * top) < 100 * top)

    def test_several_at_once(self):
        first, second = first_starts(P1, {"e": 5}, frames=4), first_starts(P1, {}, frames=3)
        mixed = [[next(first), next(second)] for _ in range(9)]
        self.assertEqual([one for one, _ in mixed] + list(first), list(first_starts(P1, {"e": 5}, frames=4)))
        self.assertEqual([other for _, other in mixed] + list(second), list(first_starts(P1, {}, frames=3)))

    def test_changes_while_it_goes_on(self):
        plan, lengths = Plan(E1, waits=P1.waits), {"e": 5}
        due = list(first_starts(plan, lengths, frames=3))
        steps = first_starts(plan, lengths, frames=3)
        found = [next(steps)]
        lengths["a"] = 9
        plan.waits = STILL.waits
        self.assertEqual(found + list(steps), due)


class TestErrors(unittest.TestCase):
    CALLS = (
        lambda plan, lengths: least_period(plan, lengths),
        lambda plan, lengths: check_period(plan, lengths, RIGHT),
        lambda plan, lengths: list(first_starts(plan, lengths, frames=2)),
        lambda plan, lengths: next(first_starts(plan, lengths, frames=1)),
        lambda plan, lengths: list(first_starts(plan, lengths, frames=0)),
    )

    def test_the_least_key_that_is_no_job(self):
        for call in self.CALLS:
            for plan in (P1, STILL):
                for lengths, name in (({"q": 1}, "q"), ({"z": 1, "a": 1, "q": 2, "x": 5}, "q"), ({"r": 1}, "r"),
                                      ({"": 1}, ""),
                                      ({"z": 1, "A": 1}, "A"), ({"a a": 1, "zz": 3}, "a a")):
                    self.assertEqual(caught(call, plan, lengths), ("NoJob", name))

    def test_standstill(self):
        for call in (self.CALLS[0], *self.CALLS[2:]):
            with self.assertRaises(Standstill) as error:
                call(STILL, {"a": 3})
            self.assertTrue(oracles.is_ring(STILL, error.exception.ring))

    def test_after_changes(self):
        plan = Plan(E2)
        self.assertEqual(least_period(plan, {"w": 7})[:2], (7, 1))
        plan.waits = P2.waits
        # the ring w, v, t, y goes two frames back, the row w alone one
        self.assertEqual([least_period(plan, {"w": 7})[:2], least_period(plan, {"y": 8})[:2]], [(7, 1), (10, 1)])
        plan.depth = 1
        self.assertTrue(is_least_period(plan, {"w": 7}, least_period(plan, {"w": 7})))
        plan.rows = {1: ("y", "v", "t")}
        self.assertTrue(is_least_period(plan, {"v": 7}, least_period(plan, {"v": 7})))
        self.assertEqual(list(first_starts(plan, {"v": 7}, frames=5)), slow_starts(plan, {"v": 7}, 5))
        plan.waits = (("w", "v", 0), ("v", "w", 0))
        self.assertRaises(Standstill, least_period, plan, {})


if __name__ == "__main__":
    unittest.main()
