import unittest

from everframe.costs import cost
from everframe.errors import Standstill
from everframe.leading import lead
from everframe.plans import Plan
from everframe.tables import cost_grid, lead_grid, slot_grid
from everframe.webs import Web
from tests import oracles
from tests.samples import E1, E2, G2, P1, P2, bare, many_jobs, random_plan, rng_of

STILL = Plan(E1, waits=(("d", "a", 0), ("a", "d", 0)))
LONG = Web(("abcdefgh", 0, (("make", "longname"),)), ("b", 0, (("read", "longname", 3),)), ("c", 1, (("make", "d"),)),
           ("zyxwvuts", 1, (("read", "d", 0),)))


def number(value):
    return "-" if value is None else f"{value}"


def slow_grid(names, told):
    """A table with a line and a column for each name."""
    lines = [" " * 8 + "".join(f"{name:>9}" for name in names)]
    for one in names:
        lines.append(f"{one:<8}" + "".join(f"{number(told(one, other)):>9}" for other in names))
    return "\n".join(lines)


def slow_slots(plan, frames):
    lines = []
    for group, (count, members) in enumerate(plan.sharing):
        for slot in range(count):
            line = f"{group}.{slot}".ljust(8)
            for frame in range(frames):
                here = sorted(name for name, _ in members if oracles.home(plan, name, frame) == (group, slot))
                line += ("+".join(here) if here else ".").rjust(9)
            lines.append(line)
    return "\n".join(lines)


class TestLeadGrid(unittest.TestCase):
    def test_signs(self):
        self.assertEqual(lead_grid(P2), (
            "                w        v        t        y\n"
            "w              -1       -1       -1       -1\n"
            "v              -1       -1        0        0\n"
            "t              -1       -1       -1        0\n"
            "y              -1       -1       -1       -1"
        ))
        self.assertEqual(lead_grid(plan=Plan(Web(bare("a", 0)))), "                a\na              -1")

    def test_none_and_names_of_eight_letters(self):
        self.assertEqual(lead_grid(Plan(LONG)), (
            "         abcdefgh        b        c zyxwvuts\n"
            "abcdefgh       -1        0        -        -\n"
            "b              -1       -1        -        -\n"
            "c               -        -       -1        0\n"
            "zyxwvuts        -        -       -1       -1"
        ))

    def test_leads_of_two_digits(self):
        web = Web(*many_jobs(8, 4))
        plan = Plan(web, waits=[("jf", "ja", 4), ("jg", "jb", 4), ("jh", "jc", 4)])
        lines = lead_grid(plan).split("\n")
        self.assertEqual(lead_grid(plan), slow_grid(web.jobs, lambda one, other: lead(plan, one, other)))
        self.assertIn("      -16", lines[5])
        self.assertEqual([len(line) for line in lines], [80] * 9)

    def test_random_plans(self):
        rng = rng_of(311)
        for _ in range(60):
            plan = random_plan(rng)
            if not oracles.stands_still(plan):
                web = plan.web
                self.assertEqual(lead_grid(plan), slow_grid(web.jobs, lambda one, other: lead(plan, one, other)))
                self.assertEqual(cost_grid(plan), slow_grid(web.buffers, lambda one, other: cost(plan, one, other)))


class TestCostGrid(unittest.TestCase):
    def test_signs(self):
        self.assertEqual(cost_grid(P2), "                h        x\nh               2        1\nx               1        1")
        self.assertEqual(cost_grid(plan=Plan(LONG)), (
            "                d longname\n"
            "d               1        -\n"
            "longname        -        4"
        ))

    def test_two_digits(self):
        web = Web(
            ("ja", 0, ()), ("jb", 1, ()), ("jc", 2, ()), ("jd", 3, (("make", "f"), ("make", "s"))),
            ("je", 0, (("read", "f", 3), ("read", "s", 3))), ("jf", 1, ()), ("jg", 2, ()), ("jh", 3, ()),
        )
        plan = Plan(web, waits=(("jf", "ja", 4), ("jg", "jb", 4), ("jh", "jc", 4)))
        self.assertEqual(cost_grid(plan), "                f        s\nf              19       19\ns              19       19")

    def test_no_buffers(self):
        self.assertEqual(cost_grid(Plan(Web(bare("a", 0)))), "        ")


class TestSlotGrid(unittest.TestCase):
    def test_signs(self):
        self.assertEqual(slot_grid(P2), (
            "0.0             h        x        h        x        h        x\n"
            "0.1             x        h        x        h        x        h"
        ))
        self.assertEqual(slot_grid(plan=P2, frames=1), "0.0             h\n0.1             x")
        self.assertEqual(slot_grid(P1, frames=2), "0.0             p        p\n1.0             r        r\n2.0             s        s")

    def test_empty_slots_and_several_buffers(self):
        plan = Plan(LONG, sharing=((3, (("longname", 2), ("d", 2))),))
        self.assertEqual(slot_grid(plan, frames=4), (
            "0.0             .d+longname        .        .\n"
            "0.1             .        .d+longname        .\n"
            "0.2     d+longname        .        .d+longname"
        ))
        web = Web(("a", 0, (("make", "abcdefgh"), ("make", "abcdefgi"))),
                  ("b", 0, (("read", "abcdefgh", 0), ("read", "abcdefgi", 0))))
        self.assertEqual(slot_grid(Plan(web, sharing=((1, (("abcdefgi", 0), ("abcdefgh", 0))),)), frames=2),
                         "0.0     abcdefgh+abcdefgiabcdefgh+abcdefgi")

    def test_many_slots(self):
        plan = Plan(E2, sharing=((200, (("h", 199),)), (12, (("x", 3),))))
        lines = slot_grid(plan, frames=100).split("\n")
        self.assertEqual([len(lines), lines[0][:8], lines[199][:17], lines[-1][:8]],
                         [212, "0.0     ", "0.199           h", "1.11    "])
        self.assertEqual(slot_grid(plan, frames=100), slow_slots(plan, 100))

    def test_random_plans(self):
        rng = rng_of(312)
        for _ in range(60):
            plan = random_plan(rng)
            if not oracles.stands_still(plan):
                self.assertEqual(slot_grid(plan), slow_slots(plan, 6))
                self.assertEqual(slot_grid(plan, frames=9), slow_slots(plan, 9))

    def test_no_buffers(self):
        self.assertEqual(slot_grid(Plan(Web(bare("a", 0)))), "")


class TestErrors(unittest.TestCase):
    def test_standstill(self):
        for call in (lead_grid, cost_grid, slot_grid):
            for plan in (STILL, Plan(E2, waits=(("w", "w", 0),), sharing=G2)):
                with self.assertRaises(Standstill) as error:
                    call(plan)
                self.assertTrue(oracles.is_ring(plan, error.exception.ring))

    def test_after_changes(self):
        plan = Plan(E2)
        self.assertIn("-\n", lead_grid(plan))
        plan.waits = P2.waits
        plan.sharing = G2
        self.assertEqual([lead_grid(plan), cost_grid(plan), slot_grid(plan)],
                         [lead_grid(P2), cost_grid(P2), slot_grid(P2)])


if __name__ == "__main__":
    unittest.main()
