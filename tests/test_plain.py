import unittest

from everframe.errors import CannotLeaveOut, NoBuffer, NoJob
from everframe.leads import Lead
from everframe.plain import plain_content, plain_finds, plain_run
from everframe.webs import Web
from tests import oracles
from tests.samples import C, E1, E2, ODD, P1, U, random_web, rng_of

K = Web(("w", 0, (("keep", "h"),)), ("v", 1, (("read", "h", 0), ("read", "h", 1))))
# the carry reads its own buffer, which a later job updates
D = Web(
    ("m", 0, (("read", "b", 1), ("carry", "b"))),
    ("x", 0, (("read", "b", 0), ("read", "b", 3))),
    ("u", 1, (("update", "b"), ("read", "b", 2))),
    ("z", 2, (("read", "b", 0),)),
)
FAR = 10 ** 30


class TestRun(unittest.TestCase):
    def test_examples(self):
        self.assertEqual(list(plain_run(C, frames=2, left_out=(("w", 1),))), [
            ("w", 0, ()), ("v", 0, ()), ("w", 1, (("h", 0, ("w", 0, "h")),)),
            ("v", 1, (("h", 0, ("w", 0, "h")),)),
        ])
        self.assertEqual(list(plain_run(web=K, frames=2, left_out=[("w", 0)])), [
            ("w", 0, ()), ("v", 0, (("h", 0, None),)), ("w", 1, ()),
            ("v", 1, (("h", 1, ("w", 1, "h")), ("h", 0, None))),
        ])
        self.assertEqual(list(plain_run(E2, frames=0)), [])
        self.assertEqual(len(list(plain_run(E1, frames=100))), 600)

    def test_updates(self):
        self.assertEqual(list(plain_run(U, frames=1)), [
            ("m", 0, ()), ("x", 0, (("b", 0, ("m", 0, "b")),)), ("u", 0, (("b", 0, ("m", 0, "b")),)),
            ("z", 0, ()),
        ])
        self.assertEqual(list(plain_run(U, frames=3))[-1], ("z", 2, (("b", 0, ("u", 0, "b")),)))

    def test_updates_of_what_is_left_out(self):
        run = list(plain_run(D, frames=4, left_out=[("m", 0), ("m", 2)]))
        self.assertEqual(run[:4], [
            ("m", 0, ()), ("x", 0, (("b", 0, None),)), ("u", 0, (("b", 0, None),)),
            ("z", 0, (("b", 0, ("u", 0, "b")),)),
        ])
        self.assertEqual(run[8:12], [
            ("m", 2, (("b", 1, ("u", 1, "b")),)), ("x", 2, (("b", 2, ("u", 1, "b")),)),
            ("u", 2, (("b", 2, ("u", 1, "b")), ("b", 0, ("u", 0, "b")))), ("z", 2, (("b", 2, ("u", 2, "b")),)),
        ])

    def test_finds_in_the_order_of_the_uses(self):
        web = Web(
            ("a", 0, (("make", "r"), ("make", "s"))),
            ("b", 0, (("read", "s", 1), ("update", "r"), ("read", "s", 0), ("read", "r", 1))),
        )
        self.assertEqual(plain_finds(web, "b", 4), (
            ("s", 3, ("a", 3, "s")), ("r", 4, ("a", 4, "r")), ("s", 4, ("a", 4, "s")), ("r", 3, ("b", 3, "r")),
        ))
        self.assertEqual(plain_finds(web, "b", 0), (("r", 0, ("a", 0, "r")), ("s", 0, ("a", 0, "s"))))

    def test_several_at_once(self):
        one, other = plain_run(C, frames=3), plain_run(C, frames=3, left_out=[("w", 0), ("w", 1)])
        rows = list(zip(one, other))
        self.assertEqual([row[0] for row in rows], list(plain_run(C, frames=3)))
        self.assertEqual([row[1] for row in rows], list(plain_run(C, frames=3, left_out=(("w", 1), ("w", 0)))))
        self.assertEqual(rows[5][1], ("v", 2, (("h", 1, None),)))

    def test_what_is_passed_stays(self):
        left_out = [("w", 1), ("w", [2]), ("w", 1)]
        list(plain_run(C, frames=3, left_out=left_out))
        plain_finds(C, "v", 2, left_out=left_out)
        plain_content(C, "h", 2, left_out=left_out)
        self.assertEqual(left_out, [("w", 1), ("w", [2]), ("w", 1)])

    def test_random_webs(self):
        rng = rng_of(11)
        for _ in range(200):
            web = random_web(rng)
            optional = [job for job in web.jobs if web.can_be_left_out(job)]
            pairs = [(job, frame) for job in optional for frame in range(6) if rng.random() < 0.5]
            pairs += [(job, other) for job in optional for other in (True, False, -1, None, [1], "1")]
            pairs += pairs[:2]
            rng.shuffle(pairs)
            steps, content = oracles.plain_steps(web, 6, pairs)
            self.assertEqual(list(plain_run(web, frames=6, left_out=pairs)), steps)
            for job, frame, finds in steps:
                self.assertEqual(plain_finds(web, job, frame, left_out=tuple(pairs)), finds)
            for buffer, frame in content:
                self.assertEqual(plain_content(web, buffer, frame, left_out=pairs), content[buffer, frame])


class TestFarFrames(unittest.TestCase):
    def test_finds(self):
        self.assertEqual(plain_finds(E2, "v", FAR), (("h", FAR - 1, ("w", FAR - 1, "h")),))
        self.assertEqual(plain_finds(web=E2, job="v", frame=0), ())
        self.assertEqual(plain_finds(D, "x", 2), (("b", 2, ("m", 2, "b")),))
        self.assertEqual(plain_finds(D, "x", 3), (("b", 3, ("m", 3, "b")), ("b", 0, ("u", 0, "b"))))
        self.assertEqual(plain_finds(C, "w", FAR, left_out=[("w", FAR)]), (("h", FAR - 1, ("w", FAR - 1, "h")),))
        self.assertEqual(plain_finds(K, "w", FAR, left_out=[("w", FAR)]), ())
        self.assertEqual(plain_finds(C, "w", 0, left_out=[("w", 0)]), ())

    def test_content(self):
        self.assertEqual(plain_content(C, "h", 3, left_out=[("w", 3), ("w", 2)]), ("w", 1, "h"))
        self.assertIsNone(plain_content(C, "h", 0, left_out=[("w", 0)]))
        self.assertEqual(plain_content(web=E2, buffer="x", frame=FAR), ("t", FAR, "x"))
        self.assertEqual(plain_content(D, "b", FAR, left_out=[("m", FAR)]), ("u", FAR, "b"))

    def test_many_in_a_row(self):
        many = [("w", frame) for frame in range(5000)]
        self.assertIsNone(plain_content(C, "h", 4999, left_out=many))
        self.assertEqual(plain_content(C, "h", 5000, left_out=many), ("w", 5000, "h"))
        far = [("w", FAR - at) for at in range(5000)] * 2
        for web in (C, K):
            self.assertEqual(plain_content(web, "h", FAR, left_out=far), ("w", FAR - 5000, "h"))
            self.assertEqual(plain_finds(web, "v", FAR, left_out=tuple(far[::-1]))[-1],
                             ("h", FAR - 1, ("w", FAR - 5000, "h")))
        self.assertEqual(plain_content(C, "h", FAR - 5000, left_out=far), ("w", FAR - 5000, "h"))
        self.assertEqual(list(plain_run(C, frames=100, left_out=many))[-1], ("v", 99, (("h", 98, None),)))

    def test_what_is_no_frame_has_no_effect(self):
        others = [("w", value) for value in ODD if value != 5] + [("w", "3"), ("w", (3,)), ("w", Lead(3))]
        for frame in (0, 1, 3):
            self.assertEqual(plain_content(C, "h", frame, left_out=others), ("w", frame, "h"))
            self.assertEqual(plain_finds(C, "w", frame, left_out=others), ())
        self.assertEqual(list(plain_run(C, frames=4, left_out=others)), list(plain_run(C, frames=4)))
        self.assertEqual(plain_content(C, "h", 1, left_out=[*others, ("w", 1)]), ("w", 0, "h"))


class TestErrors(unittest.TestCase):
    def calls(self, web, left_out):
        yield lambda: plain_finds(web, "w", 0, left_out=left_out)
        yield lambda: plain_content(web, "h", 0, left_out=left_out)
        yield lambda: next(plain_run(web, frames=1, left_out=left_out))
        yield lambda: list(plain_run(web, frames=0, left_out=left_out))

    def test_left_out_that_is_no_job(self):
        for value in (*ODD, "h", "zz", C):
            for call in self.calls(C, [("w", 0), ("v", 0), (value, 0), ("zzz", 0)]):
                with self.assertRaises(NoJob) as error:
                    call()
                self.assertIs(error.exception.name, value)

    def test_jobs_that_cannot_be_left_out(self):
        web = Web(*[(job, C.queue_of(job), C.uses(job)) for job in C.jobs], ("a", 0, ()))
        for frame in (0, 7, -1, None, [1], True):
            for call in self.calls(web, (("w", 0), ("v", frame), ("a", 0))):
                with self.assertRaises(CannotLeaveOut) as error:
                    call()
                self.assertEqual(error.exception.job, "v")

    def test_the_own_argument_goes_first(self):
        for value in (*ODD, "h", "zz", P1):
            with self.assertRaises(NoJob) as error:
                plain_finds(C, value, 0, left_out=[("zz", 0), ("v", 0)])
            self.assertIs(error.exception.name, value)
        for value in (*ODD, "w", "zz", P1):
            with self.assertRaises(NoBuffer) as error:
                plain_content(C, value, 0, left_out=[("zz", 0), ("v", 0)])
            self.assertIs(error.exception.name, value)


if __name__ == "__main__":
    unittest.main()
