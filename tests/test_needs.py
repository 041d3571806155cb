import unittest

from everframe.needs import needs
from everframe.webs import Web
from tests import oracles
from tests.samples import C, E1, E2, U, bare, many_jobs, random_web, rng_of


class TestNeeds(unittest.TestCase):
    def test_examples(self):
        self.assertEqual(needs(E1), (("a", "b", 0), ("a", "d", 0), ("c", "f", 0), ("e", "f", 0)))
        self.assertEqual(needs(web=E2), (("t", "y", 0), ("w", "v", 1)))
        self.assertEqual(needs(C), (("w", "v", 1), ("w", "w", 1)))
        self.assertEqual(needs(U), (("m", "u", 0), ("m", "x", 0), ("u", "z", 2), ("x", "u", 0)))

    def test_none(self):
        self.assertEqual(needs(Web(bare("a", 0))), ())
        self.assertEqual(needs(Web(*many_jobs(16, 4))), ())

    def test_reads_between_updates(self):
        web = Web(
            ("z", 0, (("read", "b", 1),)),
            ("m", 0, (("make", "b"),)),
            ("p", 0, (("read", "b", 0), ("read", "b", 2))),
            ("u", 1, (("update", "b"), ("read", "b", 3))),
            ("q", 1, (("read", "b", 0),)),
            ("r", 1, (("read", "b", 0),)),
            ("v", 2, (("update", "b"),)),
            ("w", 2, (("update", "b"),)),
            ("s", 3, (("read", "b", 0),)),
        )
        self.assertEqual(needs(web), tuple(sorted([
            ("w", "z", 1), ("m", "p", 0), ("w", "p", 2), ("m", "u", 0), ("p", "u", 0), ("w", "u", 3),
            ("u", "q", 0), ("u", "r", 0), ("u", "v", 0), ("q", "v", 0), ("r", "v", 0), ("v", "w", 0),
            ("w", "s", 0),
        ])))

    def test_a_job_that_needs_itself(self):
        self.assertEqual(needs(Web(("a", 0, (("read", "r", 2), ("make", "r"))))), (("a", "a", 2),))
        web = Web(("a", 0, (("make", "r"),)), ("b", 0, (("update", "r"), ("read", "r", 1), ("read", "r", 3))))
        self.assertEqual(needs(web), (("a", "b", 0), ("b", "b", 1), ("b", "b", 3)))

    def test_carry_and_keep(self):
        for word, more in (("carry", [("u", "w", 1)]), ("keep", []), ("make", [])):
            web = Web(("w", 0, ((word, "h"),)), ("u", 1, (("update", "h"),)))
            self.assertEqual(needs(web), tuple(sorted([("w", "u", 0), *more])))

    def test_each_need_once(self):
        web = Web(
            ("a", 0, (("make", "r"), ("make", "s"))), ("b", 1, (("read", "r", 0), ("read", "s", 0))),
            ("c", 1, (("update", "r"), ("update", "s"))),
        )
        self.assertEqual(needs(web), (("a", "b", 0), ("a", "c", 0), ("b", "c", 0)))

    def test_random_webs(self):
        rng = rng_of(12)
        for _ in range(300):
            web = random_web(rng)
            self.assertEqual(needs(web), oracles.needs(web))
        for _ in range(20):
            web = random_web(rng, jobs=16, buffers=10)
            self.assertEqual(needs(web), oracles.needs(web))


if __name__ == "__main__":
    unittest.main()
