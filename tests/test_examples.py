"""The examples that the document gives for the modules."""

import unittest

from everframe.errors import InvalidText, InvalidWeb
from everframe.flows import flow
from everframe.leading import closed_lot, lead, way
from everframe.leads import Lead, along, best
from everframe.needs import needs
from everframe.plain import plain_content, plain_run
from everframe.plans import Plan
from everframe.texts import show_plan
from everframe.webs import Web
from tests.samples import C, E1, E2, P1, P2, U


class TestExamples(unittest.TestCase):
    def test_leads(self):
        a, b = Lead(-1), Lead()
        told = [
            a * Lead(-2), a * b, a + b, b == Lead(), bool(b), bool(Lead(0)), str(b), along(a, a), best(),
            best(a, Lead(-3)),
        ]
        self.assertEqual(repr(told), (
            "[Lead(-3), Lead(None), Lead(-1), True, False, True, 'none', Lead(-2), Lead(None), Lead(-1)]"
        ))

    def test_webs(self):
        told = [
            E2.jobs, E2.buffers, E2.queues, E2.uses_of("h"), E2.maker("x"), E2.size("x"),
            E2.can_be_left_out("w"), len(E2),
        ]
        self.assertEqual(repr(told), (
            "[('w', 'v', 't', 'y'), ('h', 'x'), (0, 1), (('w', 0, 'make'), ('v', 1, 'read')), 't', 1, False, 4]"
        ))
        for jobs, reason in (
            ((("a", 0, (("read", "r", 0),)), ("b", 0, (("make", "r"),))), ("ahead", 0)),
            ((("a", 0, (("make", "a"),)), ("b", 0, (("read", "a", 0),))), ("name", 0)),
        ):
            with self.assertRaises(InvalidWeb) as error:
                Web(*jobs)
            self.assertEqual((error.exception.reason, error.exception.job), reason)

    def test_plain_run(self):
        self.assertEqual(list(plain_run(E2, frames=2)), [
            ("w", 0, ()), ("v", 0, ()), ("t", 0, ()), ("y", 0, (("x", 0, ("t", 0, "x")),)), ("w", 1, ()),
            ("v", 1, (("h", 0, ("w", 0, "h")),)), ("t", 1, ()), ("y", 1, (("x", 1, ("t", 1, "x")),)),
        ])
        told = [
            plain_content(C, "h", 3, left_out=[("w", 3), ("w", 2)]), plain_content(C, "h", 0, left_out=[("w", 0)]),
        ]
        self.assertEqual(told, [("w", 1, "h"), None])
        self.assertEqual(list(plain_run(C, frames=2, left_out=(("w", 1),))), [
            ("w", 0, ()), ("v", 0, ()), ("w", 1, (("h", 0, ("w", 0, "h")),)), ("v", 1, (("h", 0, ("w", 0, "h")),)),
        ])

    def test_needs(self):
        self.assertEqual([needs(E1), needs(E2), needs(C)], [
            (("a", "b", 0), ("a", "d", 0), ("c", "f", 0), ("e", "f", 0)), (("t", "y", 0), ("w", "v", 1)),
            (("w", "v", 1), ("w", "w", 1)),
        ])
        self.assertEqual(needs(U), (("m", "u", 0), ("m", "x", 0), ("u", "z", 2), ("x", "u", 0)))

    def test_plans(self):
        told = [P2.rows, P2.ties, len(P2), "w" in P2, P2.without_wait(("w", "y", 1)).waits]
        self.assertEqual(told, [
            {0: ("w",), 1: ("v", "t", "y")},
            (("t", "y", 0), ("v", "t", 0), ("w", "v", -1), ("w", "w", -1), ("y", "v", -1), ("y", "w", -1)),
            2, True, (("v", "w", 1),),
        ])
        self.assertEqual(P1.ties, (
            ("a", "b", 0), ("a", "d", 0), ("b", "c", 0), ("c", "a", -1), ("c", "f", 0), ("d", "e", 0),
            ("e", "f", 0), ("f", "a", -1), ("f", "d", -1),
        ))

    def test_leading(self):
        told = [lead(P2, "v", "w"), lead(P2, "t", "w"), lead(P2, "w", "w"), way(P2, "v", "w")]
        self.assertEqual(told, [-1, -1, -1, (("v", "t", 0), ("t", "y", 0), ("y", "w", -1))])
        self.assertEqual(closed_lot(P2, "v", 1, 2), (("t", 0), ("v", 0), ("w", 0), ("w", 1), ("y", 0)))

    def test_flows(self):
        self.assertEqual([flow(P1)[0], flow(P1.with_wait(("a", "f", 0)))[0]], ["timetable", "ring"])

    def test_texts(self):
        text = (
            "job w 0 make:h\njob v 1 read:h:1\njob t 1 make:x\njob y 1 read:x:0\nwait v w 1\nwait w y 1\n"
            "group 2 h:0 x:1"
        )
        self.assertEqual(show_plan(P2), text)
        self.assertEqual(Plan.read(text), P2)
        self.assertEqual(Web.read("job job 0 make:make\njob b 0 read:make:0\nsize make 2").size("make"), 2)
        for text, line, word in (
            ("job a 0 make:r\njob b 0 read:r", 1, 3), ("job a 0 make:r \njob b 0 read:r:0", 0, 4), ("-", 0, 0),
            ("job a 0 make:r\njob b 0 read:r:0\n", 2, 0), ("job a 0 make:r\njob b 0 read:r:0\nsize r 2 3", 2, 3),
        ):
            for read in (Web.read, Plan.read):
                with self.assertRaises(InvalidText) as error:
                    read(text)
                self.assertEqual((error.exception.line, error.exception.word), (line, word))


if __name__ == "__main__":
    unittest.main()
