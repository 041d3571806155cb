import unittest

from everframe.errors import FrameError, InvalidText
from everframe.plans import Plan
from everframe.reader import read_plan, read_web
from everframe.texts import show_plan, show_web
from everframe.webs import Web
from tests.samples import C, E1, E2, ODD, P1, P2, U, caught, random_plan, random_web, rng_of
from tests.slowtext import ORDER, fault_of_text, slow_read, spoiled_text

TWO = "job a 0 make:r\njob b 0 read:r:0"


def found_by(read, text):
    """What a reader returns, or the error that it raises."""
    return caught(read, text) or read(text)


class TestExamples(unittest.TestCase):
    def test_examples(self):
        self.assertEqual(show_plan(P2), "job w 0 make:h\njob v 1 read:h:1\njob t 1 make:x\njob y 1 read:x:0\n"
                                        "wait v w 1\nwait w y 1\ngroup 2 h:0 x:1")
        self.assertEqual(read_plan(show_plan(P2)), P2)
        self.assertEqual(read_web("job job 0 make:make\njob b 0 read:make:0\nsize make 2").size("make"), 2)
        for text, line, word in (
            ("job a 0 make:r\njob b 0 read:r", 1, 3), ("job a 0 make:r \njob b 0 read:r:0", 0, 4), ("-", 0, 0),
            (TWO + "\n", 2, 0), (TWO + "\nsize r 2 3", 2, 3), ("", 0, 0),
        ):
            for read in (read_web, read_plan, Web.read, Plan.read):
                self.assertEqual(caught(read, text), ("InvalidText", line, word))

    def test_kinds(self):
        self.assertIsInstance(read_web(text=TWO), Web)
        self.assertIsInstance(read_plan(text=TWO), Plan)
        for web in (E1, E2, C, U):
            self.assertEqual([read_web(show_web(web)), read_plan(show_web(web))], [web, Plan(web)])
        self.assertEqual(read_plan(str(P1)), P1)

    def test_values_that_are_no_strings(self):
        for value in (*ODD, P1, E1, [TWO], (TWO,), 7):
            if not isinstance(value, str):
                for read in (read_web, read_plan, Web.read, Plan.read):
                    self.assertEqual(caught(read, value), ("InvalidText", 0, 0))

    def test_written_and_read_back(self):
        rng = rng_of(331)
        for _ in range(150):
            plan = random_plan(rng)
            self.assertEqual([read_plan(str(plan)), read_web(str(plan.web))], [plan, plan.web])
            self.assertEqual([str(read_plan(str(plan))), str(read_web(str(plan.web)))], [str(plan), str(plan.web)])


class TestLines(unittest.TestCase):
    def test_sorts_in_the_allowed_order(self):
        lines = {"job": TWO, "size": "size r 2", "row": "row 0 b a", "wait": "wait a b 1", "depth": "depth 2",
                 "group": "group 3 r:2"}
        for mask in range(32):
            chosen = ["job"] + [sort for at, sort in enumerate(ORDER[1:]) if mask & 1 << at]
            text = "\n".join(lines[sort] for sort in chosen)
            plan = read_plan(text)
            self.assertEqual(plan, slow_read(text, True))
            self.assertEqual([plan.depth, "depth" in chosen],
                             [2 if "depth" in chosen else None, plan.depth is not None])
            web_lines = set(chosen) <= {"job", "size"}
            self.assertEqual(caught(read_web, text) is None, web_lines)
            # each sort that comes too early, and each line once more
            for at in range(1, len(chosen)):
                early = [*chosen[:at - 1], chosen[at], chosen[at - 1], *chosen[at + 1:]]
                text = "\n".join(lines[sort] for sort in early)
                self.assertEqual(caught(read_plan, text), ("InvalidText", *fault_of_text(text, ORDER)))

    def test_lines_once_more(self):
        whole = TWO + "\nsize r 2\nrow 0 b a\nwait a b 1\ndepth 2\ngroup 3 r:2"
        for at, line in enumerate(whole.split("\n")):
            lines = whole.split("\n")
            lines.insert(at, line)
            text = "\n".join(lines)
            expected = {0: ("InvalidWeb", "name", 1), 1: ("InvalidWeb", "name", 2), 2: ("InvalidText", 3, 1),
                        3: ("InvalidText", 4, 1), 4: None, 5: ("InvalidText", 6, 0), 6: ("InvalidSharing", 1)}
            self.assertEqual(caught(read_plan, text), expected[at])

    def test_spoiled_texts(self):
        rng = rng_of(332)
        errors = []
        for _ in range(400):
            plan = random_plan(rng)
            for _ in range(10):
                text = spoiled_text(rng, str(plan))
                for read, sorts, whole in ((read_plan, ORDER, True), (read_web, ORDER[:2], False)):
                    fault = fault_of_text(text, sorts)
                    if fault is not None:
                        self.assertEqual(caught(read, text), ("InvalidText", *fault), text)
                        errors.append("text")
                        continue
                    expected = caught(slow_read, text, whole) or slow_read(text, whole)
                    self.assertEqual(found_by(read, text), expected, text)
                    errors.append(expected[0] if isinstance(expected, tuple) else "none")
                self.assertEqual(found_by(Plan.read, text), found_by(read_plan, text))
                self.assertEqual(found_by(Web.read, text), found_by(read_web, text))
        for word in ("text", "none", "InvalidWeb", "InvalidPlan", "InvalidSharing"):
            self.assertTrue(errors.count(word) > 20, (word, errors.count(word)))

    def test_numbers(self):
        for text, sort in (("job a {}", "queue"), (TWO + "\nsize r {}", "size"), (TWO + " read:r:{}", "age"),
                           (TWO + "\nwait a b {}", "back"),
                           (TWO + "\nrow {} a b", "queue"), (TWO + "\ndepth {}", "depth"),
                           (TWO + "\ngroup {} r:0", "count"),
                           (TWO + "\ngroup 200 r:{}", "shift")):
            low, high = {"queue": (0, 3), "size": (1, 9), "age": (0, 3), "back": (0, 4), "depth": (1, 4),
                         "count": (1, 200),
                         "shift": (0, 199)}[sort]
            for number in ("-1", "0", "1", "2", "3", "4", "5", "9", "10", "199", "200", "201", "999", "1000",
                           "10" * 20, "01", "00", "+1", "1 ", " 1",
                           "", "x", "1x", "1.0", "1_0", "\u0661", "0" * 5000, "1\t"):
                error = caught(read_plan, text.format(number)) or ("",)
                fits = number.isascii() and number.isdigit() and str(int(number[:9])) == number and low <= int(number) <= high
                self.assertEqual(error[0] != "InvalidText", fits, (text, number))


class TestErrors(unittest.TestCase):
    def test_errors_of_the_web_then_of_the_plan(self):
        for text, error in (
            (TWO + "\nrow 0 a\nwait a b 1 1", ("InvalidText", 3, 4)),
            ("job a 0\njob a 0\nrow 1 a", ("InvalidWeb", "name", 1)),
            (TWO + "\nsize q 2\nrow 1 a", ("InvalidWeb", "sizes", None)),
            (TWO + "\nrow 1 a\nwait q q 0", ("InvalidPlan", "rows", -1)),
            (TWO + "\nrow 0 a\nwait q q 0", ("InvalidPlan", "rows", 0)),
            (TWO + "\nwait a b 0\nwait q q 0\ngroup 1 q:0", ("InvalidPlan", "waits", 1)),
            (TWO + "\ngroup 1 r:1", ("InvalidSharing", 0)), (TWO + "\ngroup 2 r:1 r:1", ("InvalidSharing", 0)),
            ("job a 0 make:r", ("InvalidWeb", "unread", 0)), ("job a 0 read:r:0", ("InvalidWeb", "maker", 0)),
        ):
            self.assertEqual(caught(read_plan, text), error)

    def test_a_text_of_the_most_jobs(self):
        rng = rng_of(333)
        web = random_web(rng, jobs=16, buffers=10)
        self.assertEqual(read_web(str(web)), web)
        self.assertEqual(caught(read_web, str(web) + "\njob zzz 0") is None, False)

    def test_bases(self):
        with self.assertRaises(FrameError) as error:
            read_web("-")
        self.assertIsInstance(error.exception, InvalidText)


if __name__ == "__main__":
    unittest.main()
