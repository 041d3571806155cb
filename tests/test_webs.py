import unittest

from everframe.errors import InvalidWeb, NoBuffer, NoJob
from everframe.leads import Lead
from everframe.webs import Web
from tests.samples import C, E1, E2, ODD, P1, U, bare, caught, many_jobs, random_web, rng_of

MAKER = ("a", 0, (("make", "r"),))
READER = ("b", 1, (("read", "r", 0),))


def reason(*jobs, sizes=None):
    """The reason and the job of the InvalidWeb that these jobs raise."""
    found = caught(Web, *jobs, sizes=sizes)
    return found if found is None else found[1:]


def buffers_web(count):
    """Jobs with this many buffers."""
    names = "klmnopqrstu"[:count]
    return [
        ("a", 0, tuple(("make", name) for name in names)),
        ("b", 0, tuple(("read", name, 0) for name in names)),
    ]


class TestReasons(unittest.TestCase):
    def test_count(self):
        self.assertEqual(reason(), ("count", None))
        self.assertEqual(reason(sizes=3), ("count", None))
        self.assertIsNone(reason(*many_jobs(1)))
        self.assertIsNone(reason(*many_jobs(16)))
        self.assertEqual(reason(*many_jobs(17)), ("count", None))
        self.assertEqual(reason(*[None] * 17), ("count", None))

    def test_job(self):
        for value in ODD:
            self.assertEqual(reason(bare("z", 0), value), ("job", 1), value)
            self.assertEqual(reason(("z", 0, (value,))), ("job", 0), value)
        for name in ("", "A", "a1", "a b", "abcdefghi", "`", "{", "a\n", "\u00e4", None, 1, ("a",), ["a"]):
            self.assertEqual(reason((name, 0, ())), ("job", 0), name)
            self.assertEqual(reason(("a", 0, (("make", name),))), ("job", 0), name)
        for name in ("a", "z", "az", "abcdwxyz"):
            self.assertEqual(reason((name, 0, ())), None)
        for queue in (-1, 4, True, False, None, "0", (0,), [0], 10 ** 39):
            self.assertEqual(reason(("a", queue, ())), ("job", 0), queue)
        for uses in ([], None, "", {}, 0, [("make", "r")], "make"):
            self.assertEqual(reason(("a", 0, uses)), ("job", 0), uses)
        for job in (["a", 0, ()], ("a", 0), ("a", 0, (), ()), "a"):
            self.assertEqual(reason(job), ("job", 0), job)

    def test_use(self):
        wrong = (
            ["make", "r"], ("make",), ("make", "r", 0), ("make", "R"), ("make", ""), ("make", None),
            ("read", "r"), ("read", "r", -1), ("read", "r", 4), ("read", "r", True), ("read", "r", "0"),
            ("read", "r", 0, 0), ("read", ["r"], 0), ("update", "r", 0), ("keep", "r", 0),
            ("carry", "r", 0), ("write", "r"), ("Make", "r"), (None, "r"), (["make"], "r"), (),
            ("read", "r", [0]), (True, "r"), ("update",),
        )
        for use in wrong:
            jobs = (MAKER, READER, ("c", 0, (use,)))
            self.assertEqual(reason(*jobs), ("job", 2), use)
            jobs = (MAKER, READER, ("c", 0, (("read", "r", 1), use)))
            self.assertEqual(reason(*jobs), ("job", 2), use)

    def test_name(self):
        self.assertEqual(reason(MAKER, READER, bare("a", 0)), ("name", 2))
        self.assertEqual(reason(("a", 0, (("make", "a"),)), ("b", 0, (("read", "a", 0),))), ("name", 0))
        self.assertEqual(reason(bare("r", 0), MAKER, READER), ("name", 0))
        self.assertEqual(reason(MAKER, READER, bare("r", 0)), ("name", 2))
        self.assertEqual(reason(("a", 0, (("read", "b", 1),)), bare("b", 0)), ("name", 1))

    def test_uses_of_one_buffer(self):
        one = (("make", "r"), ("keep", "r"), ("carry", "r"), ("update", "r"), ("read", "r", 0))
        for use in one:
            for other in one:
                self.assertEqual(reason(bare("z", 0), ("a", 0, (use, other))), ("uses", 1))
        for age in range(4):
            twice = (("read", "r", age), ("read", "r", age))
            self.assertEqual(reason(MAKER, ("b", 0, twice)), ("uses", 1))
        apart = (("read", "r", 0), ("read", "r", 1), ("read", "r", 2), ("read", "r", 3))
        self.assertIsNone(reason(MAKER, ("b", 0, apart)))
        self.assertIsNone(reason(MAKER, ("b", 0, (("update", "r"), ("read", "r", 1)))))
        for word in ("make", "keep", "carry"):
            self.assertIsNone(reason(("a", 0, ((word, "r"), ("read", "r", 1), ("read", "r", 2)))))

    def test_optional_jobs_write_one_buffer(self):
        reader = ("z", 0, (("read", "r", 0), ("read", "s", 0)))
        for word in ("keep", "carry"):
            for other in ("make", "keep", "carry"):
                for uses in (((word, "r"), (other, "s")), ((other, "s"), (word, "r"))):
                    self.assertEqual(reason(("a", 0, uses), reader), ("uses", 0))
            both = ("b", 0, ((word, "s"), ("update", "r")))
            self.assertEqual(reason(MAKER, both, reader), ("uses", 1))
            both = ("b", 0, (("read", "r", 0), ("read", "s", 1), (word, "s")))
            self.assertIsNone(reason(MAKER, both))
        several = ("b", 0, (("update", "r"), ("make", "s"), ("make", "k")))
        self.assertIsNone(reason(MAKER, several, ("c", 0, (("read", "s", 0), ("read", "k", 0)))))

    def test_maker(self):
        for word in ("make", "keep", "carry"):
            self.assertEqual(reason(MAKER, READER, ("c", 0, ((word, "r"),))), ("maker", 2))
        for use in (("read", "s", 0), ("read", "s", 3), ("update", "s")):
            self.assertEqual(reason(MAKER, READER, ("c", 0, (use,))), ("maker", 2))
        again = ("d", 0, (("make", "r"),))
        self.assertEqual(reason(("c", 0, (("read", "s", 1),)), MAKER, again), ("maker", 0))

    def test_ahead(self):
        self.assertEqual(reason(READER, MAKER), ("ahead", 0))
        self.assertEqual(reason(("b", 0, (("update", "r"),)), MAKER), ("ahead", 0))
        for age in (1, 2, 3):
            self.assertIsNone(reason(("b", 0, (("read", "r", age),)), MAKER))
        self.assertEqual(reason(MAKER, READER, ("c", 0, (("read", "s", 0),)), ("d", 0, (("make", "s"),))),
                         ("ahead", 2))

    def test_buffers(self):
        self.assertIsNone(reason(*buffers_web(10)))
        self.assertEqual(reason(*buffers_web(11)), ("buffers", None))

    def test_unread(self):
        for word in ("make", "keep", "carry"):
            self.assertEqual(reason(bare("z", 0), ("a", 0, ((word, "r"),))), ("unread", 1))
        self.assertIsNone(reason(MAKER, ("b", 0, (("update", "r"),))))
        self.assertIsNone(reason(("a", 0, (("make", "r"), ("read", "r", 3)))))
        self.assertEqual(reason(("a", 0, (("make", "r"), ("make", "s"))), READER), ("unread", 0))

    def test_sizes(self):
        for sizes in (None, {}, {"r": 1}, {"r": 9}):
            self.assertIsNone(reason(MAKER, READER, sizes=sizes))
        wrong = [value for value in ODD if value not in (None, {})] + [
            {"r": 0}, {"r": 10}, {"r": True}, {"r": "1"}, {"r": None}, {"r": [1]}, {"r": (1,)},
            {"s": 1}, {"a": 1}, {"r": 1, "s": 1}, {None: 1}, {1: 1}, {("r",): 1}, {True: 1},
            (("r", 1),), [("r", 1)], "r", {"r": 10 ** 39}, {"r": -1},
        ]
        for sizes in wrong:
            self.assertEqual(reason(MAKER, READER, sizes=sizes), ("sizes", None), sizes)


class TestOrderOfReasons(unittest.TestCase):
    def test_an_earlier_reason_goes_first(self):
        faults = (
            ("job", (["n"], 0, ())),
            ("name", bare("z", 0)),
            ("uses", ("nu", 0, (("read", "k", 1), ("read", "k", 1)))),
            ("maker", ("nm", 0, (("make", "k"),))),
            ("ahead", ("na", 0, (("read", "l", 0),))),
            ("unread", ("nr", 0, (("make", "m"),))),
        )
        sound = (bare("z", 0), ("a", 0, (("make", "k"),)), ("b", 0, (("read", "k", 0),)))
        behind = (("c", 0, (("make", "l"),)), ("d", 0, (("read", "l", 1),)))
        for at, (word, job) in enumerate(faults):
            self.assertEqual(reason(*sound, job, *behind), (word, 3))
            later = [one for _, one in faults[at + 1:]]
            self.assertEqual(reason(*sound, *later, job, *behind, sizes=3), (word, 3 + len(later)), word)
        many = buffers_web(11)
        self.assertEqual(reason(*many, ("c", 0, (("make", "v"),)), sizes=3), ("buffers", None))
        self.assertEqual(reason(*many, ("c", 0, (("read", "v", 0),)), ("d", 0, (("make", "v"),))),
                         ("ahead", 2))
        self.assertEqual(reason(("a", 0, (("make", "r"),)), sizes=3), ("unread", 0))
        self.assertEqual(reason(*many_jobs(17), sizes=3), ("count", None))

    def test_the_first_job_is_told(self):
        self.assertEqual(reason(MAKER, None, None), ("job", 1))
        self.assertEqual(reason(MAKER, READER, MAKER, READER), ("name", 2))
        self.assertEqual(reason(READER, ("c", 0, (("read", "r", 0),)), MAKER), ("ahead", 0))

    def test_as_attributes(self):
        with self.assertRaises(InvalidWeb) as error:
            Web(READER, MAKER)
        self.assertEqual((error.exception.reason, error.exception.job), ("ahead", 0))


class TestWeb(unittest.TestCase):
    def test_class_values(self):
        self.assertEqual((Web.MOST_JOBS, Web.MOST_BUFFERS), (16, 10))
        self.assertEqual((E1.MOST_JOBS, E1.MOST_BUFFERS), (16, 10))

    def test_properties(self):
        self.assertEqual(E1.jobs, ("a", "b", "c", "d", "e", "f"))
        self.assertEqual(E1.buffers, ("p", "r", "s"))
        self.assertEqual(E1.queues, (0, 1))
        self.assertEqual(Web(bare("a", 3), bare("b", 1), bare("c", 3)).queues, (1, 3))
        self.assertEqual(E2.jobs, ("w", "v", "t", "y"))
        bufferless = Web(bare("z", 2))
        self.assertEqual((bufferless.buffers, bufferless.sizes), ((), {}))

    def test_sizes(self):
        self.assertEqual(E1.sizes, {"p": 1, "r": 1, "s": 1})
        self.assertEqual(list(E1.sizes), ["p", "r", "s"])
        given = {"s": 4, "p": 2}
        web = Web(*[(job, E1.queue_of(job), E1.uses(job)) for job in E1.jobs], sizes=given)
        given["p"] = 7
        given["r"] = "x"
        self.assertEqual(given, {"s": 4, "p": 7, "r": "x"})
        self.assertEqual(list(web.sizes.items()), [("p", 2), ("r", 1), ("s", 4)])
        sizes = web.sizes
        sizes["p"] = 9
        del sizes["s"]
        self.assertEqual(web.sizes, {"p": 2, "r": 1, "s": 4})
        self.assertEqual([web.size("p"), web.size(buffer="r"), web.size("s")], [2, 1, 4])

    def test_jobs(self):
        self.assertEqual([E2.queue_of("w"), E2.queue_of(job="v")], [0, 1])
        self.assertEqual(E2.uses("v"), (("read", "h", 1),))
        self.assertEqual(E1.uses(job="f"), (("read", "p", 0), ("read", "s", 0)))
        self.assertEqual(Web(bare("a", 0)).uses("a"), ())
        self.assertEqual([C.can_be_left_out("w"), C.can_be_left_out(job="v")], [True, False])
        keeper = Web(("w", 0, (("read", "h", 1), ("keep", "h"))))
        self.assertIs(keeper.can_be_left_out("w"), True)
        self.assertIs(E2.can_be_left_out("w"), False)

    def test_buffers(self):
        self.assertEqual([E2.maker("x"), E2.maker(buffer="h"), C.maker("h")], ["t", "w", "w"])
        self.assertEqual(E1.uses_of("r"), (("a", 0, "make"), ("b", 0, "read"), ("d", 0, "read")))
        self.assertEqual(U.uses_of(buffer="b"),
                         (("m", 0, "make"), ("x", 0, "read"), ("u", 0, "update"), ("z", 2, "read")))
        self.assertEqual([U.writers("b"), E1.writers(buffer="r"), C.writers("h")],
                         [("m", "u"), ("a",), ("w",)])
        own = Web(("a", 0, (("read", "r", 2), ("keep", "r"), ("read", "r", 1))))
        self.assertEqual(own.uses_of("r"), (("a", 2, "read"), ("a", 0, "keep"), ("a", 1, "read")))

    def test_unknown_names(self):
        for value in (*ODD, "zz", "r", Lead(1), E1, P1):
            for method in (E1.queue_of, E1.uses, E1.can_be_left_out):
                with self.assertRaises(NoJob) as error:
                    method(value)
                self.assertIs(error.exception.name, value)
        for value in (*ODD, "zz", "a", Lead(1), E1, P1):
            for method in (E1.maker, E1.size, E1.uses_of, E1.writers):
                with self.assertRaises(NoBuffer) as error:
                    method(value)
                self.assertIs(error.exception.name, value)

    def test_contains_and_len(self):
        self.assertTrue(all(job in E1 for job in E1.jobs))
        for value in (*ODD, "r", "p", "zz", Lead(), E1):
            self.assertIs(value in E1, False)
        self.assertEqual([len(E1), len(E2), len(Web(*many_jobs(16)))], [6, 4, 16])

    def test_repr(self):
        self.assertEqual(repr(E1), "Web(6 jobs, 3 buffers)")
        self.assertEqual(repr(Web(bare("a", 0))), "Web(1 jobs, 0 buffers)")
        self.assertEqual(repr(C), "Web(2 jobs, 1 buffers)")

    def test_equal(self):
        jobs = [("a", 0, (("make", "r"), ("make", "s"))), ("b", 1, (("read", "r", 0), ("read", "s", 1)))]
        web = Web(*jobs)
        self.assertTrue(web == Web(*jobs) and not web != Web(*jobs))
        self.assertEqual(web, Web(*jobs, sizes={"r": 1}))
        self.assertEqual(Web(*jobs, sizes={"r": 2, "s": 3}), Web(*jobs, sizes={"s": 3, "r": 2}))
        swapped = ("b", 1, (("read", "s", 1), ("read", "r", 0)))
        others = [
            Web(*jobs, sizes={"r": 2}),
            Web(("c", 0, jobs[0][2]), jobs[1]),
            Web(("a", 2, jobs[0][2]), jobs[1]),
            Web(jobs[0], swapped),
            Web(*jobs, bare("c", 0)),
            Web(jobs[0], ("b", 1, (("read", "r", 0), ("read", "s", 2)))),
        ]
        for other in others:
            self.assertTrue(web != other and not web == other)
        later = (bare("c", 0), bare("d", 0))
        self.assertNotEqual(Web(*later), Web(*later[::-1]))
        for value in (*ODD, tuple(jobs), jobs, str(web), repr(web), P1, Lead()):
            self.assertTrue(web != value and not web == value)
            self.assertTrue(value != web and not value == web)

    def test_random_webs(self):
        rng = rng_of(1)
        for _ in range(200):
            web = random_web(rng)
            jobs = [(job, web.queue_of(job), web.uses(job)) for job in web.jobs]
            self.assertEqual(web, Web(*jobs, sizes=web.sizes))
            for buffer in web.buffers:
                uses = web.uses_of(buffer)
                self.assertEqual(web.writers(buffer)[0], web.maker(buffer))
                said = [(job, use) for job, _, found in jobs for use in found if use[1] == buffer]
                self.assertEqual([(job, word) for job, _, word in uses],
                                 [(job, use[0]) for job, use in said])


if __name__ == "__main__":
    unittest.main()
