import unittest

from everframe.costs import cost_table
from everframe.errors import InvalidWeb
from everframe.joining import cut_queue, renamed, side_by_side, twice
from everframe.leading import lead_table, unmet
from everframe.needs import needs
from everframe.plans import Plan
from everframe.slots import fewest_slots
from everframe.verdicts import verdict
from everframe.webs import Web
from tests import oracles
from tests.samples import (
    C, E1, E2, G2, ODD, P1, P2, U, bare, caught, many_jobs, random_plan, random_sharing, random_web, rng_of, row_of,
)


def leads_of(plan):
    """A dict from two jobs to their lead."""
    return {row[:2]: row[2] for row in lead_table(plan)}


def costs_of(plan):
    """A dict from two buffers to their cost."""
    return {row[:2]: row[2] for row in cost_table(plan)}


def lively(rng, **named):
    """A random plan without a standstill."""
    while True:
        plan = random_plan(rng, random_web(rng, **named))
        if not oracles.stands_still(plan):
            return plan


def on_queues(web, queues):
    """The web with its jobs on other queues."""
    return Web(*[(job, queues[at % len(queues)], web.uses(job)) for at, job in enumerate(web.jobs)], sizes=web.sizes)


def with_letters(plan, letters):
    """The plan with all names changed to names that begin with these letters."""
    return renamed(plan, {name: letters + name for name in (*plan.web.jobs, *plan.web.buffers)})


def one_web(name, buffer, queue=0):
    return Web((name, queue, (("make", buffer),)), (name + "z", queue, (("read", buffer, 0),)))


class TestSideBySide(unittest.TestCase):
    def test_example(self):
        both = side_by_side(P1, P2)
        self.assertEqual([both.web.queues, costs_of(both)["r", "h"], costs_of(both)["h", "x"], fewest_slots(both)[1]],
                         [(0, 1, 2, 3), None, 1, 5])
        self.assertEqual(both.web.jobs, E1.jobs + E2.jobs)
        self.assertEqual(both.rows, {0: ("a", "b", "c"), 1: ("d", "e", "f"), 2: ("w",), 3: ("v", "t", "y")})
        self.assertEqual(both.waits, tuple(sorted(P1.waits + P2.waits)))
        self.assertEqual([both.depth, both.sharing], [None, G2 + Plan(E1).sharing])

    def test_one(self):
        self.assertEqual(side_by_side(P2), P2)
        self.assertEqual(side_by_side(plan=P1), P1)
        self.assertIsNot(side_by_side(P1), P1)
        high = Plan(Web(bare("a", 1), bare("b", 3)), waits=(("a", "b", 0),))
        self.assertEqual(side_by_side(high), high)

    def test_three_with_gaps(self):
        first = Plan(Web(bare("a", 0)))
        second = Plan(Web(bare("b", 1), bare("c", 1)), rows={1: ("c", "b")}, waits=(("b", "c", 2),))
        third = Plan(Web(bare("d", 0)))
        plan = side_by_side(first, second, third)
        self.assertEqual(plan.rows, {0: ("a",), 2: ("c", "b"), 3: ("d",)})
        self.assertEqual([plan.web.queue_of(job) for job in "abcd"], [0, 2, 2, 3])
        self.assertEqual(plan.waits, (("b", "c", 2),))
        # the gap of the second one counts in the third one
        self.assertEqual(side_by_side(second, first, third).rows, {1: ("c", "b"), 2: ("a",), 3: ("d",)})
        self.assertEqual(caught(side_by_side, second, Plan(Web(bare("a", 1))), third), ("TooMany", 4))

    def test_sizes_and_sharings(self):
        first = Plan(Web(("a", 0, (("make", "r"),)), ("b", 0, (("read", "r", 0),)), sizes={"r": 7}),
                     sharing=((4, (("r", 3),)),))
        second = Plan(Web(("m", 0, (("carry", "g"),)), ("n", 1, (("read", "g", 1), ("update", "g")))),
                      sharing=((2, (("g", 1),)),))
        plan = side_by_side(first, second)
        self.assertEqual([plan.web.sizes, plan.sharing], [{"g": 1, "r": 7}, ((2, (("g", 1),)), (4, (("r", 3),)))])
        self.assertEqual([plan.web.uses("m"), plan.web.uses("n")],
                         [(("carry", "g"),), (("read", "g", 1), ("update", "g"))])
        self.assertTrue(plan.web.can_be_left_out("m"))

    def test_what_stays(self):
        rng = rng_of(301)
        words = []
        for _ in range(80):
            plans = [lively(rng, jobs=rng.randint(1, 4), buffers=rng.randint(0, 3)) for _ in range(2)]
            plans = [Plan(on_queues(one.web, rng.choice(((0,), (1,), (0, 1)))), waits=one.waits,
                          sharing=one.sharing) for one in plans]
            plans = [with_letters(one, "ab"[at]) for at, one in enumerate(plans)]
            if any(oracles.stands_still(one) for one in plans):
                continue
            before = [one.twin() for one in plans]
            both = side_by_side(*plans)
            self.assertEqual(plans, before)
            self.assertEqual(leads_of(both), {**leads_of(plans[0]), **leads_of(plans[1])})
            for (r, s), worth in costs_of(both).items():
                own = [costs_of(one).get((r, s)) for one in plans if r in one.web.buffers and s in one.web.buffers]
                self.assertEqual(worth, own[0] if own else None)
            self.assertEqual(needs(both.web), tuple(sorted(needs(plans[0].web) + needs(plans[1].web))))
            told = [fewest_slots(one) for one in plans]
            if all(one[0] == "slots" for one in told):
                self.assertEqual(fewest_slots(both)[1], told[0][1] + told[1][1])
            else:
                self.assertNotEqual(fewest_slots(both)[0], "slots")
            verdicts = [verdict(one)[0] for one in plans]
            words.append(verdict(both)[0])
            self.assertEqual(words[-1], "right" if verdicts == ["right", "right"] else "wrong")
        self.assertTrue(min(words.count("right"), words.count("wrong")) > 3)

    def test_depth(self):
        deep = Plan(Web(bare("c", 0)), depth=1)
        one = Plan(Web(bare("a", 0)))
        for plans, at in (((deep,), 0), ((one, deep), 1), ((deep, one), 0), ((one, one, deep), 2), ((deep, deep), 0)):
            # ahead of all else
            self.assertEqual(caught(side_by_side, *plans), ("InvalidPlan", "depth", at))

    def test_names(self):
        first = Plan(one_web("a", "r"))
        for other in (one_web("a", "s"), one_web("r", "s"), one_web("b", "r"), one_web("b", "a"), one_web("b", "az")):
            self.assertEqual(caught(side_by_side, first, Plan(other)), ("InvalidPlan", "name", 1))
            self.assertEqual(caught(side_by_side, Plan(one_web("q", "qq")), first, Plan(other)),
                             ("InvalidPlan", "name", 2))
            self.assertEqual(caught(side_by_side, first, Plan(other), first), ("InvalidPlan", "name", 1))
        self.assertEqual(caught(side_by_side, first, first), ("InvalidPlan", "name", 1))
        # ahead of the queues
        self.assertEqual(caught(side_by_side, first, *[first] * 4), ("InvalidPlan", "name", 1))

    def test_queues(self):
        plans = [Plan(Web(bare(name, 0))) for name in "abcde"]
        self.assertEqual(side_by_side(*plans[:4]).web.queues, (0, 1, 2, 3))
        wide = Plan(Web(bare("y", 0), bare("z", 3)))
        self.assertEqual(caught(side_by_side, plans[0], wide), ("TooMany", 4))
        self.assertEqual(caught(side_by_side, wide, plans[0]), ("TooMany", 4))
        self.assertEqual(caught(side_by_side, *plans), ("TooMany", 4))
        many = Plan(Web(*[bare("k" + chr(97 + at), 3) for at in range(16)]))
        # ahead of the jobs
        self.assertEqual(caught(side_by_side, plans[0], many), ("TooMany", 4))

    def test_jobs_and_buffers(self):
        nine = Plan(Web(*[bare("k" + chr(97 + at), 0) for at in range(9)]))
        eight = Plan(Web(*many_jobs(8)))
        self.assertEqual(caught(side_by_side, nine, eight), ("TooMany", 16))
        self.assertEqual(len(side_by_side(eight, Plan(Web(*[bare("k" + chr(97 + at), 0) for at in range(8)]))).web), 16)

        def full(letter, buffers, jobs):
            names = [letter + "b" + chr(97 + at) for at in range(buffers)]
            uses = (tuple(("make", name) for name in names), tuple(("read", name, 0) for name in names))
            rest = [bare(letter + "k" + chr(97 + at), 0) for at in range(jobs - 2)]
            return Plan(Web((letter + "m", 0, uses[0]), (letter + "n", 0, uses[1]), *rest))

        self.assertEqual(len(side_by_side(full("p", 5, 2), full("q", 5, 2)).web.buffers), 10)
        self.assertEqual(caught(side_by_side, full("p", 5, 2), full("q", 6, 2)), ("TooMany", 10))
        self.assertEqual(caught(side_by_side, full("p", 5, 9), full("q", 6, 8)), ("TooMany", 16))


def slow_twice(plan):
    """The plan with two frames in one, as the document tells it."""
    web = plan.web

    def part(name, frame):
        return name + ("a" if frame % 2 == 0 else "b"), frame // 2

    jobs = []
    for frame in (0, 1):
        for job in web.jobs:
            uses = []
            for use in web.uses(job):
                # 40 frames earlier there is an even frame, too
                name, back = part(use[1], frame + 40 - (use[2] if use[0] == "read" else 0))
                uses.append((use[0], name, 20 - back) if use[0] == "read" else (use[0], name))
            jobs.append((part(job, frame)[0], web.queue_of(job), tuple(uses)))
    waits = list(plan.waits)
    if plan.depth is not None:
        rows = list(plan.rows.values())
        waits += [(row[0], other[-1], plan.depth) for row in rows for other in rows if row != other]
    parted = []
    for job, of, back in waits:
        for frame in (0, 1):
            name, at = part(of, frame + 40 - back)
            parted.append((part(job, frame)[0], name, 20 - at))
    rows = {queue: [job + "a" for job in row] + [job + "b" for job in row] for queue, row in plan.rows.items()}
    sizes = {name + end: web.size(name) for name in web.buffers for end in "ab"}
    return Plan(Web(*jobs, sizes=sizes), rows=rows, waits=parted)


class TestTwice(unittest.TestCase):
    def test_example(self):
        two = twice(P2)
        self.assertEqual(two.waits, (("va", "wb", 1), ("vb", "wa", 0), ("wa", "yb", 1), ("wb", "ya", 0)))
        self.assertEqual([leads_of(two)["wa", "vb"], leads_of(two)["wb", "va"], fewest_slots(two)[1]], [0, -1, 2])
        self.assertEqual(two.web.jobs, ("wa", "va", "ta", "ya", "wb", "vb", "tb", "yb"))
        self.assertEqual([two.depth, two.sharing, twice(plan=P2)], [None, Plan(two.web).sharing, two])

    def test_ages_and_waits_of_each_size(self):
        web = Web(("m", 0, (("make", "b"),)), ("z", 1, tuple(("read", "b", age) for age in range(4))))
        two = twice(Plan(web, waits=[("z", "m", back) for back in range(5)]))
        self.assertEqual(two.web.uses("za"), (("read", "ba", 0), ("read", "bb", 1), ("read", "ba", 1),
                                              ("read", "bb", 2)))
        self.assertEqual(two.web.uses("zb"), (("read", "bb", 0), ("read", "ba", 0), ("read", "bb", 1),
                                              ("read", "ba", 1)))
        self.assertEqual(two.waits, (
            ("za", "ma", 0), ("za", "ma", 1), ("za", "ma", 2), ("za", "mb", 1), ("za", "mb", 2),
            ("zb", "ma", 0), ("zb", "ma", 1), ("zb", "mb", 0), ("zb", "mb", 1), ("zb", "mb", 2),
        ))

    def test_rows_sizes_and_depth(self):
        web = Web(("m", 0, (("make", "b"),)), ("x", 0, (("update", "b"),)), ("z", 2, (("read", "b", 1),)), bare("y", 3),
                  sizes={"b": 5})
        for depth, waits in (
            (None, ()), (1, (("xa", "yb", 1), ("xa", "zb", 1), ("xb", "ya", 0), ("xb", "za", 0), ("ya", "mb", 1),
                             ("ya", "zb", 1), ("yb", "ma", 0), ("yb", "za", 0), ("za", "mb", 1), ("za", "yb", 1),
                             ("zb", "ma", 0), ("zb", "ya", 0))),
        ):
            two = twice(Plan(web, rows={0: ("x", "m")}, depth=depth, sharing=((3, (("b", 2),)),)))
            self.assertEqual([two.waits, two.depth], [waits, None])
            self.assertEqual(two.rows, {0: ("xa", "ma", "xb", "mb"), 2: ("za", "zb"), 3: ("ya", "yb")})
            self.assertEqual([two.web.sizes, two.sharing], [{"ba": 5, "bb": 5}, ((1, (("ba", 0),)), (1, (("bb", 0),)))])

    def test_against_the_document(self):
        rng = rng_of(302)
        words = []
        for _ in range(120):
            plan = lively(rng, jobs=rng.randint(1, 6), buffers=rng.randint(0, 4), optional=False)
            before = plan.twin()
            two = twice(plan)
            self.assertEqual(two, slow_twice(plan))
            self.assertEqual(plan, before)
            leads, costs = leads_of(plan), costs_of(plan)
            for p, one in enumerate("ab"):
                for q, other in enumerate("ab"):
                    for i in plan.web.jobs:
                        for j in plan.web.jobs:
                            due = (leads[i, j] + q - p) // 2 if (i, j) in leads else None
                            self.assertEqual(leads_of(two).get((i + one, j + other)), due)
                    for (r, s), worth in costs.items():
                        due = None if worth is None else max(0, (worth + p - q + 1) // 2)
                        self.assertEqual(costs_of(two)[r + one, s + other], due)
            told = fewest_slots(plan)
            words.append(told[0])
            self.assertEqual(fewest_slots(two)[0], told[0])
            if told[0] == "slots":
                self.assertEqual(fewest_slots(two)[1], told[1])
            self.assertEqual(unmet(two) == (), unmet(plan) == ())
        self.assertTrue(min(words.count("slots"), words.count("endless")) > 10)

    def test_standstill(self):
        self.assertTrue(oracles.stands_still(twice(Plan(E2, waits=(("t", "y", 0),)))))

    def test_optional_jobs_and_long_names(self):
        long = "abcdefgh"
        for web, at in (
            (C, 0), (Web(bare("a", 0), ("k", 0, (("keep", "h"),)), ("v", 0, (("read", "h", 0),))), 1),
            (Web(bare("a", 0), bare(long, 1), bare("b", 0)), 1),
            (Web(("m", 0, (("make", long),)), ("v", 0, (("read", long, 0),))), 0),
            (Web(("m", 0, (("make", "x"), ("make", long))), ("v", 0, (("read", long, 0), ("read", "x", 0)))), 0),
            (Web(bare("a", 0), ("k", 0, (("carry", "h"),)), (long, 0, (("read", "h", 0),))), 1),
            (Web(*many_jobs(15), bare(long, 0)), 15),
        ):
            self.assertEqual(caught(twice, Plan(web)), ("InvalidWeb", "twice", at))
        seven = "abcdefg"
        self.assertEqual(twice(Plan(Web(bare(seven, 0)))).web.jobs, (seven + "a", seven + "b"))
        # a reader of a buffer with a long name is not the first one
        web = Web(bare("u", 1), ("v", 0, (("read", long, 1),)), ("m", 0, (("make", long),)))
        self.assertEqual(caught(twice, Plan(web)), ("InvalidWeb", "twice", 2))

    def test_too_many(self):
        self.assertEqual(len(twice(Plan(Web(*many_jobs(8)))).web), 16)
        self.assertEqual(caught(twice, Plan(Web(*many_jobs(9)))), ("TooMany", 16))

        def full(many, jobs):
            names = ["b" + chr(97 + at) for at in range(many)]
            uses = (tuple(("make", name) for name in names), tuple(("read", name, 0) for name in names))
            return Plan(Web(("m", 0, uses[0]), ("n", 0, uses[1]), *many_jobs(jobs - 2)))

        self.assertEqual(len(twice(full(5, 3)).web.buffers), 10)
        self.assertEqual(caught(twice, full(6, 3)), ("TooMany", 10))
        self.assertEqual(caught(twice, full(6, 9)), ("TooMany", 16))


class TestCutQueue(unittest.TestCase):
    def test_example(self):
        cut = cut_queue(P1, 0, 2, 2)
        self.assertEqual([cut.rows, cut.waits], [{0: ("a", "b"), 1: ("d", "e", "f"), 2: ("c",)},
                                                 tuple(sorted(P1.waits + (("c", "b", 0), ("a", "c", 1))))])
        self.assertEqual(leads_of(cut)["a", "c"], 0)
        self.assertEqual(cut_queue(plan=P1, queue=0, at=2, new=2), cut)

    def test_each_index_to_each_queue(self):
        rng = rng_of(303)
        tried = 0
        for _ in range(60):
            web = on_queues(random_web(rng, jobs=rng.randint(2, 6)), rng.choice(((0,), (2,), (0, 3), (1, 2))))
            plan = random_plan(rng, web)
            before = plan.twin()
            for queue in web.queues:
                row = plan.rows[queue]
                for at in range(1, len(row)):
                    for new in [one for one in range(4) if one not in web.queues]:
                        cut = cut_queue(plan, queue, at, new)
                        tried += 1
                        self.assertEqual(cut.web.jobs, web.jobs)
                        self.assertEqual(cut.rows, dict(sorted({**plan.rows, queue: row[:at], new: row[at:]}.items())))
                        waits = {*plan.waits, (row[at], row[at - 1], 0), (row[0], row[-1], 1)}
                        self.assertEqual(cut.waits, tuple(sorted(waits)))
                        self.assertEqual([cut.depth, cut.sharing, cut.web.sizes], [plan.depth, plan.sharing, web.sizes])
                        self.assertEqual([cut.web.uses(job) for job in web.jobs], [web.uses(job) for job in web.jobs])
                        self.assertEqual(verdict(cut)[0], verdict(plan)[0])
                        if verdict(plan)[0] != "still":
                            self.assertEqual(leads_of(cut), leads_of(plan))
                            self.assertEqual([costs_of(cut), needs(cut.web)], [costs_of(plan), needs(web)])
                            self.assertEqual(fewest_slots(cut)[:2], fewest_slots(plan)[:2])
            self.assertEqual(plan, before)
        self.assertTrue(tried > 200)

    def test_wrong_integers(self):
        for queue in (2, 3, 4, -1, 10 ** 39):
            self.assertEqual(caught(cut_queue, P1, queue, 9, 9), ("InvalidPlan", "queue", queue))
        for at in (0, 3, 4, -1, -2, 10 ** 39):
            self.assertEqual(caught(cut_queue, P1, 0, at, 9), ("InvalidPlan", "at", at))
        self.assertEqual(caught(cut_queue, P2, 0, 1, 2), ("InvalidPlan", "at", 1))
        for new in (0, 1, 4, -1, 10 ** 39):
            self.assertEqual(caught(cut_queue, P1, 1, 1, new), ("InvalidPlan", "new", new))
        self.assertEqual(cut_queue(P1, 1, 1, 3).rows, {0: ("a", "b", "c"), 1: ("d",), 3: ("e", "f")})

    def test_rows_that_are_not_in_list_order(self):
        plan = Plan(E1, rows={1: ("f", "d", "e")}, waits=(("a", "f", 1),), depth=3)
        cut = cut_queue(plan, 1, 1, 2)
        self.assertEqual([cut.rows, cut.waits], [{0: ("a", "b", "c"), 1: ("f",), 2: ("d", "e")},
                                                 (("a", "f", 1), ("d", "f", 0), ("f", "e", 1))])


class TestRenamed(unittest.TestCase):
    def test_exchanged(self):
        other = renamed(P2, {"w": "t", "t": "w"})
        self.assertEqual(str(other), "job t 0 make:h\njob v 1 read:h:1\njob w 1 make:x\njob y 1 read:x:0\n"
                                     "wait t y 1\nwait v t 1\ngroup 2 h:0 x:1")
        self.assertEqual(renamed(plan=other, names={"w": "t", "t": "w"}), P2)
        # a job and a buffer
        both = renamed(P2, {"w": "h", "h": "w"})
        self.assertEqual([both.web.jobs, both.web.buffers, both.sharing],
                         [("h", "v", "t", "y"), ("w", "x"), ((2, (("w", 0), ("x", 1))),)])

    def test_wherever_a_name_stands(self):
        plan = Plan(Web(("a", 0, (("make", "r"), ("read", "q", 2))), ("b", 0, (("update", "r"),)),
                        ("c", 1, (("carry", "q"),)), sizes={"r": 4}),
                    rows={0: ("b", "a")}, waits=(("a", "c", 3), ("b", "b", 1)), depth=2,
                    sharing=((5, (("r", 4),)), (2, (("q", 1),))))
        other = renamed(plan, {"a": "zz", "b": "a", "r": "b", "q": "yy", "c": "c", "none": "such", 7: 8, (): []})
        self.assertEqual(str(other), "job zz 0 make:b read:yy:2\njob a 0 update:b\njob c 1 carry:yy\nsize b 4\n"
                                     "row 0 a zz\nwait a a 1\nwait zz c 3\ndepth 2\ngroup 5 b:4\ngroup 2 yy:1")

    def test_random_plans(self):
        rng = rng_of(304)
        for _ in range(100):
            plan = random_plan(rng)
            names = [*plan.web.jobs, *plan.web.buffers]
            others = names + ["new" + chr(97 + at) for at in range(5)]
            rng.shuffle(others)
            changed = {name: other for name, other in zip(names, others)}
            before = (plan.twin(), dict(changed))
            other = renamed(plan, changed)
            self.assertEqual((plan, changed), before)
            # the same words, one by one
            told = []
            for line in str(plan).split("\n"):
                parts = line.split(" ")
                found = [parts[0]]
                for part in parts[1:]:
                    pieces = part.split(":")
                    if pieces[0] in ("make", "keep", "carry", "update",
                                     "read") and len(pieces) > 1 and parts[0] == "job":
                        pieces[1] = changed.get(pieces[1], pieces[1])
                    else:
                        pieces[0] = changed.get(pieces[0], pieces[0])
                    found.append(":".join(pieces))
                told.append(" ".join(found))
            # the lines of one sort may stand in any order
            self.assertEqual(other, Plan.read("\n".join(told)))
            back = {new: old for old, new in changed.items()}
            self.assertEqual(renamed(other, back), plan)
            if not oracles.stands_still(plan):
                self.assertEqual(leads_of(other), {(changed[i], changed[j]): w for (i, j), w in leads_of(plan).items()})
                self.assertEqual(costs_of(other), {(changed[i], changed[j]): w for (i, j), w in costs_of(plan).items()})
                self.assertEqual(fewest_slots(other)[0], fewest_slots(plan)[0])
            self.assertEqual(verdict(other)[0], verdict(plan)[0])

    def test_names_that_are_none(self):
        for value in ODD:
            if value == "a" * 8 or not (isinstance(value, str) and value.isalpha() and value.islower() and len(value) < 9):
                self.assertEqual(caught(renamed, P2, {"v": value}), ("InvalidWeb", "job", 1))
                # the job that makes the buffer comes first
                self.assertEqual(caught(renamed, P2, {"h": value}), ("InvalidWeb", "job", 0))
                self.assertEqual(caught(renamed, P2, {"x": value, "y": value}), ("InvalidWeb", "job", 2))
                self.assertEqual(renamed(P2, {"q": value}), P2)

    def test_errors_of_the_web(self):
        for names, reason in (
            ({"v": "w"}, ("name", 1)), ({"w": "v"}, ("name", 1)), ({"w": "h"}, ("name", 0)), ({"h": "y"}, ("name", 3)),
            ({"h": "x"}, ("maker", 2)), ({"h": "x", "w": "x"}, ("name", 0)),
            ({"t": "w", "w": "tt", "y": "v"}, ("name", 3)),
        ):
            self.assertEqual(caught(renamed, P2, names), ("InvalidWeb", *reason))
            jobs = [(names.get(job, job), E2.queue_of(job), tuple((use[0], names.get(use[1], use[1]),
                                                                   *use[2:]) for use in E2.uses(job)))
                    for job in E2.jobs]
            self.assertEqual(caught(Web, *jobs), ("InvalidWeb", *reason))
        two = Plan(Web(("a", 0, (("make", "p"), ("make", "q"))), ("b", 0, (("read", "p", 0), ("read", "q", 0))),
                       sizes={"p": 2}))
        self.assertEqual(caught(renamed, two, {"p": "q"}), ("InvalidWeb", "uses", 0))
        with self.assertRaises(InvalidWeb):
            renamed(two, {"p": []})

    def test_nothing_to_rename(self):
        for plan in (P1, P2, Plan(U), Plan(C)):
            self.assertEqual(renamed(plan, {}), plan)
            self.assertIsNot(renamed(plan, {}), plan)
            self.assertEqual(renamed(plan, {name: name for name in plan.web.jobs}), plan)


class TestTogether(unittest.TestCase):
    def test_joined_doubled_and_cut(self):
        rng = rng_of(305)
        for _ in range(30):
            web = on_queues(random_web(rng, jobs=3, buffers=2, optional=False), (0,))
            plan = Plan(web, sharing=random_sharing(rng, web))
            two = twice(plan)
            self.assertEqual(leads_of(twice(cut_queue(plan, 0, 1, 1))).keys(), leads_of(two).keys())
            self.assertEqual(leads_of(twice(cut_queue(plan, 0, 1, 1))), leads_of(two))
            joined = side_by_side(plan, with_letters(plan, "z"))
            self.assertEqual(fewest_slots(twice(joined))[1], 2 * fewest_slots(plan)[1])
            self.assertEqual(row_of(joined.web, 1), ["z" + job for job in row_of(web, 0)])

    def test_changes_of_what_was_passed(self):
        plan = Plan(E2, waits=P2.waits, sharing=G2)
        made = [side_by_side(plan), twice(plan), cut_queue(plan, 1, 1, 2), renamed(plan, {"w": "q"})]
        texts = [str(one) for one in made]
        plan.waits = ()
        plan.depth = 1
        plan.rows = {1: ("y", "t", "v")}
        self.assertEqual([str(one) for one in made], texts)
        made[0].depth = 3
        self.assertEqual(plan.depth, 1)
        self.assertEqual(E1.jobs, P1.web.jobs)


if __name__ == "__main__":
    unittest.main()
