import unittest

from everframe.errors import InvalidCertificate
from everframe.leadcheck import check_leads
from everframe.leading import lead_table
from everframe.plans import Plan
from everframe.webs import Web
from tests import oracles
from tests.samples import E1, E2, ODD, P1, P2, bare, many_jobs, random_plan, rng_of, told

T2 = lead_table(P2)
A_D = ("jd", "ja", 0)
# from a to d there are the wait, and the row by b and c, both with the lead 0
ROUND = Plan(Web(*many_jobs(4)), waits=(A_D,))
# from a to b there are a tie with the lead -2 and, by c, a way with the lead 0
BY_C = Plan(Web(bare("a", 0), bare("b", 1), bare("c", 2)), waits=(("b", "a", 2), ("c", "a", 0), ("b", "c", 0)))


def swapped(table, at, row):
    """The table with another row at this index."""
    return (*table[:at], row, *table[at + 1:])


def without(table, *places):
    """The table without the rows at these indexes."""
    return tuple(row for at, row in enumerate(table) if at not in places)


class TestAccepted(unittest.TestCase):
    def test_example(self):
        self.assertIs(check_leads(P2, lead_table(P2)), True)
        self.assertIs(check_leads(plan=P1, thing=lead_table(P1)), True)

    def test_one_to_sixteen_jobs(self):
        rng = rng_of(31)
        for count in range(1, 17):
            for queues in (1, 2, 3, 4):
                plan = Plan(Web(*many_jobs(count, queues)), depth=rng.choice((None, 1, 4)))
                self.assertIs(check_leads(plan, lead_table(plan)), True)
                plan = random_plan(rng, plan.web, waits=rng.choice((2, 4, 30)))
                if not oracles.stands_still(plan):
                    self.assertIs(check_leads(plan, lead_table(plan)), True)

    def test_any_last_tie(self):
        # from a to d by b or by c, both with two ties
        web = Web(bare("a", 0), bare("b", 1), bare("c", 2), bare("d", 3))
        plan = Plan(web, waits=(("b", "a", 0), ("c", "a", 0), ("d", "b", 0), ("d", "c", 0)))
        table = lead_table(plan)
        at = [row[:2] for row in table].index(("a", "d"))
        for last in (("b", "d", 0), ("c", "d", 0)):
            self.assertIs(check_leads(plan, swapped(table, at, (*table[at][:4], last))), True)
        self.assertEqual(told(check_leads, plan, swapped(table, at, (*table[at][:4], ("a", "d", 0)))), ("entry", at))

    def test_table_of_another_plan(self):
        for plan, other in ((P2, P1), (P1, P2), (Plan(E2), P2), (P2, Plan(E2)), (Plan(E2, depth=2), P2)):
            self.assertNotEqual(told(check_leads, plan, lead_table(other)), True)

    def test_the_plan_may_change(self):
        plan = Plan(E2)
        table = lead_table(plan)
        plan.depth = 1
        self.assertEqual(told(check_leads, plan, table)[0], "tie")
        plan.depth = None
        self.assertIs(check_leads(plan, table), True)


class TestShape(unittest.TestCase):
    def test_things_of_any_kind(self):
        for thing in ODD:
            if thing != ():
                self.assertEqual(told(check_leads, P2, thing), ("shape", -1))
        self.assertEqual(told(check_leads, P2, list(T2)), ("shape", -1))
        for row in (*ODD, list(T2[3]), T2[3][:4], (*T2[3], 0), T2):
            self.assertEqual(told(check_leads, P2, swapped(T2, 3, row)), ("shape", -1))

    def test_parts_of_any_kind(self):
        row = T2[15]
        for part in (*ODD, "zz", "h", 0, 1, [[]], {"a": []}):
            for at in (0, 1):
                self.assertEqual(told(check_leads, P2, self.with_part(row, at, part)), ("shape", -1))
            if part.__class__ is not int:
                for at in (2, 3):
                    self.assertEqual(told(check_leads, P2, self.with_part(row, at, part)), ("shape", -1))
            expected = ("entry", 15) if isinstance(part, tuple) else ("shape", -1)
            self.assertEqual(told(check_leads, P2, self.with_part(row, 4, part)), expected)
        for steps in (0, -1, 100, 10 ** 39, -(10 ** 39)):
            self.assertEqual(told(check_leads, P2, self.with_part(row, 3, steps)), ("shape", -1))
        for steps in (1, 2, 4, 99):
            self.assertEqual(told(check_leads, P2, self.with_part(row, 3, steps)), ("entry", 15))
        for lead in (0, -2, 1, 10 ** 39, -(10 ** 39)):
            self.assertEqual(told(check_leads, P2, self.with_part(row, 2, lead)), ("entry", 15))

    def with_part(self, row, at, part):
        return (*T2[:15], (*row[:at], part, *row[at + 1:]))

    def test_ahead_of_all_else(self):
        broken = (T2[3], T2[3], ("w", "v", True, 1, ("w", "v", -1)))
        self.assertEqual(told(check_leads, P2, broken), ("shape", -1))
        self.assertEqual(told(check_leads, P2, (*T2[:15], (*T2[15][:3], 0, ()))), ("shape", -1))
        self.assertEqual(told(check_leads, P2, (*T2[:15], (*T2[15][:3], 100, ()))), ("shape", -1))
        self.assertEqual(told(check_leads, P2, (*T2[:15], (*T2[15][:3], 99, ()))), ("entry", 15))


class TestOrder(unittest.TestCase):
    def test_out_of_order_or_twice(self):
        self.assertEqual(told(check_leads, P2, T2[::-1]), ("order", 1))
        self.assertEqual(told(check_leads, P2, (*T2[:5], T2[6], T2[5], *T2[7:])), ("order", 6))
        self.assertEqual(told(check_leads, P2, (*T2[:5], T2[4], *T2[5:])), ("order", 5))
        self.assertEqual(told(check_leads, P2, (*T2, T2[15])), ("order", 16))
        # the same pair with another lead is no other pair
        self.assertEqual(told(check_leads, P2, (*T2, ("y", "y", 0, 1, ("y", "y", 0)))), ("order", 16))

    def test_ahead_of_entries(self):
        wrong = swapped(T2, 0, (*T2[0][:4], ()))
        self.assertEqual(told(check_leads, P2, (*wrong, T2[15])), ("order", 16))


class TestEntry(unittest.TestCase):
    def refuse(self, at, **parts):
        names = ("of", "job", "lead", "steps", "last")
        row = tuple(parts.get(name, T2[at][place]) for place, name in enumerate(names))
        self.assertEqual(told(check_leads, P2, swapped(T2, at, row)), ("entry", at), row)

    def test_last_is_no_tie(self):
        for last in ((), ("t",), ("t", "y"), ("t", "y", 0, 0), ("t", "y", -1), ("t", "y", False), ("t", "y", None),
                     ("t", "y", "0"), (["t"], "y", 0), ("t", {}, 0), ("t", "v", 0), (None, None, None)):
            self.refuse(3, last=last)
            self.refuse(11, last=last)

    def test_last_ends_elsewhere(self):
        self.refuse(3, last=("v", "t", 0))
        self.refuse(11, last=("v", "t", 0))
        # all else is as it should be
        self.refuse(10, last=("w", "v", -1))
        self.refuse(1, last=("y", "w", -1))

    def test_one_tie(self):
        # it begins elsewhere, or has another lead
        self.refuse(11, steps=1)
        self.refuse(14, last=("w", "w", -1))
        self.refuse(10, last=("y", "w", -1))
        self.refuse(14, lead=-2)
        self.refuse(10, lead=0)
        self.refuse(10, lead=-(10 ** 39))

    def test_several_ties(self):
        # its last tie is behind an entry with other steps, another lead, or none
        self.refuse(11, steps=4)
        self.refuse(11, steps=2)
        self.refuse(11, steps=99)
        self.refuse(11, lead=0)
        self.refuse(11, lead=10 ** 39)
        # w t comes by w v, which is left out
        self.assertEqual(T2[8], ("w", "t", -1, 2, ("v", "t", 0)))
        self.assertEqual(told(check_leads, P2, without(T2, 9)), ("entry", 8))

    def test_first_index_and_ahead_of_still(self):
        table = swapped(swapped(T2, 11, (*T2[11][:4], ())), 7, (*T2[7][:4], ()))
        self.assertEqual(told(check_leads, P2, table), ("entry", 7))
        still = Plan(E2, waits=(("w", "w", 0),))
        table = (("w", "w", 0, 1, ("w", "w", 0)), ("w", "y", 0, 1, ("w", "y", 0)))
        self.assertEqual(told(check_leads, still, table), ("entry", 1))
        # tables that lack rows as well
        self.assertEqual(told(check_leads, P2, (T2[4], (*T2[7][:4], ("y", "y", 0)))), ("entry", 1))


class TestStill(unittest.TestCase):
    def test_ring_in_a_table(self):
        web = Web(bare("a", 0), bare("b", 1))
        still = Plan(web, waits=(("a", "b", 0), ("b", "a", 0)))
        a_b, b_a = ("a", "b", 0), ("b", "a", 0)
        table = (("a", "a", 0, 2, b_a), ("a", "b", 0, 1, a_b), ("b", "a", 0, 1, b_a), ("b", "b", 0, 2, a_b))
        self.assertEqual(told(check_leads, still, table), ("still", 0))
        # ahead of what is left out
        self.assertEqual(told(check_leads, still, table[1:]), ("still", 2))
        self.assertEqual(told(check_leads, still, (table[0], table[1])), ("still", 0))
        # the ties are there, but not what follows from them
        self.assertEqual(told(check_leads, still, (table[1], table[2])), ("tie", 0))
        self.assertEqual(told(check_leads, Plan(web, waits=(("a", "a", 0),)), (("a", "a", 0, 1, ("a", "a", 0)),)),
                         ("still", 0))

    def test_no_table_is_accepted_beside_a_standstill(self):
        rng = rng_of(32)
        tried = 0
        while tried < 60:
            plan = random_plan(rng)
            if not oracles.stands_still(plan):
                continue
            tried += 1
            loose = Plan(plan.web, rows=plan.rows)
            for thing in ((), lead_table(loose), tuple(
                (x, y, w, 1, (x, y, w)) for x, y, w in plan.ties
            )):
                self.assertIn(told(check_leads, plan, thing)[0], ("tie", "still", "entry"))


class TestTie(unittest.TestCase):
    def test_nothing(self):
        self.assertEqual(told(check_leads, P2, ()), ("tie", 0))
        self.assertEqual(told(check_leads, Plan(Web(bare("a", 3))), ()), ("tie", 0))

    def test_entries_left_out(self):
        # t y is the tie 0; w y is needed behind w t for the tie 0
        self.assertEqual(told(check_leads, P2, without(T2, 11)), ("tie", 0))
        # v w, behind v y and the tie y w, at index 5
        self.assertEqual(told(check_leads, P2, without(T2, 6)), ("tie", 5))
        # no way from t at all; the tie 0 leads from t to y
        self.assertEqual(told(check_leads, P2, T2[4:]), ("tie", 0))
        self.assertEqual(told(check_leads, P2, T2[:8]), ("tie", 2))

    def test_lead_too_small(self):
        ties = BY_C.ties
        self.assertEqual(ties, (("a", "a", -1), ("a", "b", -2), ("a", "c", 0), ("b", "b", -1), ("c", "b", 0),
                                ("c", "c", -1)))
        table = lead_table(BY_C)
        self.assertEqual([row[:4] for row in table], [
            ("a", "a", -1, 1), ("a", "b", 0, 2), ("a", "c", 0, 1), ("b", "b", -1, 1), ("c", "b", 0, 1),
            ("c", "c", -1, 1),
        ])
        small = swapped(table, 1, ("a", "b", -2, 1, ("a", "b", -2)))
        self.assertEqual(told(check_leads, BY_C, small), ("tie", 4))
        # a way that goes around once more
        long = swapped(table, 1, ("a", "b", -1, 3, ("b", "b", -1)))
        self.assertEqual(told(check_leads, BY_C, long), ("entry", 1))

    def test_ahead_of_steps(self):
        # a d and a a have too many ties, which is told at the tie a d; c c is left out, behind c b and b c
        table = self.long_table()
        self.assertEqual(ROUND.ties[2], ("jb", "jc", 0))
        at = [row[:2] for row in table].index(("jc", "jc"))
        self.assertEqual(told(check_leads, ROUND, without(table, at)), ("tie", 2))

    def long_table(self):
        rows = {row[:2]: row for row in lead_table(ROUND)}
        rows["ja", "jd"] = ("ja", "jd", 0, 3, ("jc", "jd", 0))
        rows["ja", "ja"] = ("ja", "ja", -1, 4, ("jd", "ja", -1))
        return tuple(rows.values())

    def test_steps_too_many(self):
        # the ties: a b, a d, b c, c d, d a
        self.assertEqual(told(check_leads, ROUND, self.long_table()), ("steps", 1))

    def test_steps_too_many_behind_an_entry(self):
        # from a to e: by b, c, d in four ties, or by f, d in three; one tie alone is as it should be
        web = Web(*[bare(name, 0) for name in "abcde"], bare("f", 1))
        plan = Plan(web, waits=(("f", "a", 0), ("d", "f", 0)))
        rows = {row[:2]: row for row in lead_table(plan)}
        self.assertEqual([rows["a", "d"], rows["a", "e"][3]], [("a", "d", 0, 2, ("f", "d", 0)), 3])
        rows["a", "d"] = ("a", "d", 0, 3, ("c", "d", 0))
        rows["a", "e"] = ("a", "e", 0, 4, ("d", "e", 0))
        rows["a", "a"] = ("a", "a", -1, 5, ("e", "a", -1))
        self.assertEqual(plan.ties[6], ("f", "d", 0))
        self.assertEqual(told(check_leads, plan, tuple(rows.values())), ("steps", 6))


class TestAgainstTheDocument(unittest.TestCase):
    def test_changed_tables(self):
        rng = rng_of(33)
        reasons = {}
        for _ in range(1500):
            plan = random_plan(rng, waits=rng.choice((0, 1, 2, 4, 8)))
            base = plan
            if oracles.stands_still(plan):
                base = Plan(plan.web, rows=plan.rows)
            rows = list(lead_table(base))
            for _ in range(rng.randint(1, 3)):
                self.change(rng, plan, rows)
            expected = oracles.fault_of_table(plan, tuple(rows))
            self.assertEqual(told(check_leads, plan, tuple(rows)), True if expected is None else expected)
            reasons[expected and expected[0]] = True
            if expected is None:
                leads = oracles.leads(plan)
                self.assertEqual({row[:2]: row[2] for row in rows}, leads)
        self.assertEqual(set(reasons), {None, "shape", "order", "entry", "still", "tie"})

    def change(self, rng, plan, rows):
        if not rows:
            return
        at = rng.randrange(len(rows))
        of, job, lead, steps, last = rows[at]
        ties = [tie for tie in plan.ties if tie[1] == job] + [last]
        options = (
            lambda: rows.pop(at),
            lambda: rows.insert(at, rows[rng.randrange(len(rows))]),
            lambda: rows.__setitem__(at, (of, job, lead + rng.choice((-1, 1)), steps, last)),
            lambda: rows.__setitem__(at, (of, job, lead, steps + rng.choice((-1, 1)), last)),
            lambda: rows.__setitem__(at, (of, job, lead, steps, rng.choice(ties))),
            lambda: rows.__setitem__(at, (*rng.choice(ties)[:1], job, lead, 1, rng.choice(ties))),
            lambda: self.take_tie(rows, rng.choice(plan.ties)),
            lambda: self.take_detour(rng, rows, rng.choice(ties), at),
        )
        rng.choice(options)()

    def take_tie(self, rows, tie):
        kept = {row[:2]: row for row in rows}
        kept[tie[:2]] = (*tie[:2], tie[2], 1, tie)
        rows[:] = [kept[pair] for pair in sorted(kept)]

    def take_detour(self, rng, rows, tie, at):
        of, job = rows[at][:2]
        bases = [row for row in rows if row[:2] == (of, tie[0])]
        if bases:
            rows[at] = (of, job, bases[0][2] + tie[2], bases[0][3] + 1, tie)


if __name__ == "__main__":
    unittest.main()
