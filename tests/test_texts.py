import unittest

from everframe.errors import InvalidPlan, InvalidSharing, InvalidText, InvalidWeb
from everframe.plans import Plan
from everframe.texts import show_plan, show_web
from everframe.webs import Web
from tests.samples import C, E1, E2, ODD, P1, P2, U, caught, random_plan, rng_of

TWO = "job a 0 make:r\njob b 0 read:r:0"
ALL_SORTS = TWO + "\nsize r 2\nrow 0 b a\nwait a b 1\ndepth 2\ngroup 1 r:0"


def place(read, text):
    """The line and the word that InvalidText tells, None if the text is read."""
    try:
        read(text)
    except InvalidText as error:
        return (error.line, error.word)
    return None


class TestTextOfWeb(unittest.TestCase):
    def test_words_of_uses(self):
        web = Web(
            ("a", 3, (("make", "r"), ("make", "s"), ("read", "k", 3))),
            ("b", 0, (("keep", "k"), ("read", "r", 0), ("read", "r", 2))),
            ("c", 1, (("carry", "l"),)),
            ("d", 2, (("update", "s"), ("update", "l"))),
            ("e", 0, ()),
            sizes={"s": 9, "k": 2, "r": 1},
        )
        text = (
            "job a 3 make:r make:s read:k:3\njob b 0 keep:k read:r:0 read:r:2\njob c 1 carry:l\n"
            "job d 2 update:s update:l\njob e 0\nsize k 2\nsize s 9"
        )
        self.assertEqual([show_web(web), show_web(web=web), str(web)], [text] * 3)
        self.assertEqual(Web.read(text), web)
        self.assertEqual(Web.read(text=text), web)

    def test_examples(self):
        self.assertEqual(show_web(C), "job w 0 carry:h\njob v 1 read:h:1")
        for web in (E1, E2, C, U):
            self.assertEqual(Web.read(str(web)), web)

    def test_words_of_the_form_as_names(self):
        web = Web.read("job job 0 make:make\njob size 0 read:make:0\nsize make 2")
        self.assertEqual([web.jobs, web.size("make")], [("job", "size"), 2])

    def test_names_of_eight_letters(self):
        text = "job abcdwxyz 0 make:zyxwdcba\njob z 0 read:zyxwdcba:0"
        self.assertEqual(str(Web.read(text)), text)

    def test_lines_in_any_order(self):
        web = Web.read("job a 0 make:r make:s\njob b 0 read:r:0 read:s:1\nsize s 3\nsize r 1")
        self.assertEqual(web.sizes, {"r": 1, "s": 3})


class TestTextOfPlan(unittest.TestCase):
    def test_all_lines(self):
        plan = Plan(
            E1, rows={1: ("f", "e", "d"), 0: ["c", "b", "a"]}, depth=4,
            waits=(("f", "c", 0), ("d", "a", 2), ("d", "a", 1), ("a", "f", 4)),
            sharing=((3, (("s", 2),)), (200, (("r", 0), ("p", 199)))),
        )
        text = (
            str(E1) + "\nrow 0 c b a\nrow 1 f e d\nwait a f 4\nwait d a 1\nwait d a 2\nwait f c 0\n"
            "depth 4\ngroup 200 p:199 r:0\ngroup 3 s:2"
        )
        self.assertEqual([show_plan(plan), show_plan(plan=plan), str(plan)], [text] * 3)
        self.assertEqual(Plan.read(text), plan)
        self.assertEqual(Plan.read(text=text), plan)

    def test_what_is_as_usual_has_no_line(self):
        self.assertEqual(str(Plan(E1)), str(E1))
        listed = Plan(E1, rows={0: ["a", "b", "c"]}, sharing=((1, (("p", 0),)), (1, (("s", 0),)), (1, (("r", 0),))))
        self.assertEqual(str(listed), str(E1))
        self.assertEqual(str(Plan(E1, rows={1: ["e", "d", "f"]})), str(E1) + "\nrow 1 e d f")
        counted = Plan(E2, sharing=((2, (("h", 0),)), (1, (("x", 0),))))
        self.assertEqual(str(counted), str(E2) + "\ngroup 2 h:0\ngroup 1 x:0")
        self.assertEqual(Plan.read(str(E1)), Plan(E1))

    def test_lines_of_one_sort_in_any_order(self):
        text = str(E1) + "\nrow 1 f e d\nrow 0 c b a\nwait f c 0\nwait a f 1\nwait f c 0\ngroup 1 s:0\ngroup 2 r:1 p:0"
        plan = Plan.read(text)
        self.assertEqual(plan.rows, {0: ("c", "b", "a"), 1: ("f", "e", "d")})
        self.assertEqual(plan.waits, (("a", "f", 1), ("f", "c", 0)))
        self.assertEqual(plan.sharing, ((2, (("p", 0), ("r", 1))), (1, (("s", 0),))))
        self.assertIsNone(plan.depth)

    def test_random_plans(self):
        rng = rng_of(2)
        for _ in range(200):
            plan = random_plan(rng)
            self.assertEqual(Plan.read(str(plan)), plan)
            self.assertEqual(Web.read(str(plan.web)), plan.web)
            self.assertEqual(str(Plan.read(str(plan))), str(plan))


class TestInvalidText(unittest.TestCase):
    def check(self, text, line, word):
        self.assertEqual(place(Plan.read, text), (line, word), text)
        if not any(sort in text for sort in ("row", "wait", "depth", "group")):
            self.assertEqual(place(Web.read, text), (line, word), text)

    def test_values_that_are_no_text(self):
        for value in (*ODD, E1, P1, ["job a 0"], 3):
            if not isinstance(value, str):
                self.assertEqual(place(Web.read, value), (0, 0))
                self.assertEqual(place(Plan.read, value), (0, 0))

    def test_first_words(self):
        for text in ("", "-", " ", "\n", "size r 2", "jobs a 0", "Job a 0", " job a 0", "\njob a 0", "row 0 a"):
            self.check(text, 0, 0)
        self.check(TWO + "\n", 2, 0)
        self.check(TWO + "\n\nsize r 2", 2, 0)
        self.check(TWO + "\n size r 2", 2, 0)
        self.check(TWO + "\nother", 2, 0)
        self.check(TWO + "\nsize r 2\njob c 0", 3, 0)

    def test_a_web_has_no_lines_of_a_plan(self):
        for line in ("row 0 b a", "wait a b 1", "depth 2", "group 1 r:0"):
            self.assertEqual(place(Web.read, TWO + "\n" + line), (2, 0))
            self.assertIsNone(place(Plan.read, TWO + "\n" + line))

    def test_order_of_lines(self):
        lines = ALL_SORTS.split("\n")
        self.assertIsNone(place(Plan.read, ALL_SORTS))
        for at in range(2, len(lines)):
            for earlier in range(1, at):
                moved = lines[:earlier] + [lines[at]] + lines[earlier:at] + lines[at + 1:]
                self.assertEqual(place(Plan.read, "\n".join(moved)), (earlier + 1, 0))
        swapped = "\n".join(["job b 0 read:r:1", "job a 0 make:r"])
        self.assertEqual(Web.read(swapped).jobs, ("b", "a"))

    def test_a_second_depth(self):
        self.check(TWO + "\ndepth 2\ndepth 2", 3, 0)
        self.check(TWO + "\ndepth 2\ndepth", 3, 0)
        self.check(TWO + "\ndepth 2\nwait a b 1", 3, 0)

    def test_a_second_size_or_row(self):
        self.check(TWO + "\nsize r 2\nsize r 2", 3, 1)
        self.check(TWO + "\nsize r 2\nsize r", 3, 1)
        self.check(TWO + "\nsize r 2\nsize r x", 3, 1)
        self.check(TWO + "\nsize r 2\nsize", 3, 1)
        self.check(TWO + "\nsize r 2\nsize s\nsize r 2", 3, 2)
        self.check(TWO + "\nrow 0 a b\nrow 0 a b", 3, 1)
        self.check(TWO + "\nrow 0 a b\nrow 1 a b\nrow 0", 4, 1)
        self.check(TWO + "\nrow 0 a b\nrow 0 -", 3, 1)

    def test_job_lines(self):
        self.check("job", 0, 1)
        self.check("job ", 0, 1)
        self.check("job a", 0, 2)
        self.check("job a ", 0, 2)
        self.check("job  a 0", 0, 1)
        self.check("job a  0", 0, 2)
        self.check("job A 0", 0, 1)
        self.check("job abcdefghi 0", 0, 1)
        for queue in ("4", "-1", "00", "01", "+1", "1.0", "x", "True", "1_0", "\u0661"):
            self.check("job a " + queue, 0, 2)
            self.check("job a " + queue + " x", 0, 2)
        self.check("job a " + "0" * 5000, 0, 2)
        self.check("job a 0 make:r ", 0, 4)
        self.check("job a 0  make:r", 0, 3)
        self.check("job a 0 ", 0, 3)
        self.check(TWO + " read:r:1 -", 1, 5)

    def test_uses(self):
        wrong = (
            "make", "make:", "make:R", "make:r:0", "make:r:", ":r", "make::r", "write:r", "read:r", "read:r:",
            "read:r:4", "read:r:-1", "read:r:00", "read:r:0:0", "update:r:0", "keep:r:1", "carry", "x", ":",
            "Make:r", "read::0", "read:r:x", "make:abcdefghi", "make :r",
        )
        for word in wrong:
            self.check("job a 0 make:r\njob b 0 read:r:0 " + word + " read:r:1", 1, 4)
            self.check("job a 0 " + word, 0, 3)

    def test_size_lines(self):
        self.check(TWO + "\nsize", 2, 1)
        self.check(TWO + "\nsize r", 2, 2)
        self.check(TWO + "\nsize r ", 2, 2)
        self.check(TWO + "\nsize R 2", 2, 1)
        self.check(TWO + "\nsize 2 r", 2, 1)
        for size in ("0", "10", "02", "-1", "x", "1.5", ""):
            self.check(TWO + "\nsize r " + size, 2, 2)
        self.check(TWO + "\nsize r 2 3", 2, 3)
        self.check(TWO + "\nsize r 2 x", 2, 3)
        self.check(TWO + "\nsize r 2 ", 2, 3)

    def test_row_lines(self):
        self.check(TWO + "\nrow", 2, 1)
        self.check(TWO + "\nrow 0", 2, 2)
        self.check(TWO + "\nrow 4 a b", 2, 1)
        self.check(TWO + "\nrow a b", 2, 1)
        self.check(TWO + "\nrow 0 a B", 2, 3)
        self.check(TWO + "\nrow 0 a 1", 2, 3)
        self.check(TWO + "\nrow 0 a b ", 2, 4)

    def test_wait_lines(self):
        self.check(TWO + "\nwait", 2, 1)
        self.check(TWO + "\nwait a", 2, 2)
        self.check(TWO + "\nwait a b", 2, 3)
        self.check(TWO + "\nwait a 0 b", 2, 2)
        for back in ("5", "-1", "01", "x", ""):
            self.check(TWO + "\nwait a b " + back, 2, 3)
        self.check(TWO + "\nwait a b 1 1", 2, 4)
        self.check(TWO + "\nwait a b 1 a", 2, 4)

    def test_depth_lines(self):
        self.check(TWO + "\ndepth", 2, 1)
        for depth in ("0", "5", "none", "None", "01", ""):
            self.check(TWO + "\ndepth " + depth, 2, 1)
        self.check(TWO + "\ndepth 2 2", 2, 2)
        self.check(TWO + "\ndepth 2 a", 2, 2)

    def test_group_lines(self):
        self.check(TWO + "\ngroup", 2, 1)
        self.check(TWO + "\ngroup 1", 2, 2)
        for count in ("0", "201", "01", "1000", "x", "r:0"):
            self.check(TWO + "\ngroup " + count + " r:0", 2, 1)
        for member in ("r", "r:", "r:200", "r:-1", "r:00", "r:0:0", "R:0", ":0", "r:x", ""):
            self.check(TWO + "\ngroup 200 " + member, 2, 2)
            self.check(TWO + "\ngroup 200 r:199 " + member, 2, 3)

    def test_the_first_line_that_is_wrong(self):
        self.check("job a 0 make:r\njob b 0 read:r\nsize", 1, 3)
        self.check("job a 0 make:r\njob b\n-\n-", 1, 2)


class TestErrorsBehindTheForm(unittest.TestCase):
    def test_errors_of_the_web(self):
        many = "\n".join("job j" + chr(97 + at) + " 0" for at in range(17))
        self.assertEqual(caught(Web.read, many), ("InvalidWeb", "count", None))
        self.assertEqual(caught(Web.read, TWO + "\njob a 0"), ("InvalidWeb", "name", 2))
        self.assertEqual(caught(Web.read, TWO + "\nsize s 2"), ("InvalidWeb", "sizes", None))
        self.assertEqual(caught(Plan.read, TWO + "\nsize s 2\nwait a z 1"), ("InvalidWeb", "sizes", None))
        self.assertEqual(caught(Web.read, many + "\n-"), ("InvalidText", 17, 0))
        with self.assertRaises(InvalidWeb):
            Web.read("job b 0 read:r:0\njob a 0 make:r")

    def test_errors_of_the_plan(self):
        cases = (
            ("row 1 a", ("InvalidPlan", "rows", -1)),
            ("row 0 a", ("InvalidPlan", "rows", 0)),
            ("row 0 a a", ("InvalidPlan", "rows", 0)),
            ("wait a b 1\nwait a z 1", ("InvalidPlan", "waits", 1)),
            ("wait b b 0\nwait a r 1\ngroup 1 r:1", ("InvalidPlan", "waits", 1)),
            ("depth 4\ngroup 1 r:1", ("InvalidSharing", 0)),
            ("group 1 r:0\ngroup 1 z:0", ("InvalidSharing", 1)),
            ("group 2 r:0 r:1", ("InvalidSharing", 0)),
            ("group 2 r:0\ngroup 2 r:1", ("InvalidSharing", 1)),
        )
        for lines, error in cases:
            self.assertEqual(caught(Plan.read, TWO + "\n" + lines), error, lines)
        missing = "job a 0 make:r make:s\njob b 0 read:r:0 read:s:0\ngroup 1 s:0"
        self.assertEqual(caught(Plan.read, missing), ("InvalidSharing", 1))
        with self.assertRaises(InvalidPlan):
            Plan.read(TWO + "\nrow 0 b")
        with self.assertRaises(InvalidSharing):
            Plan.read(missing)

    def test_example(self):
        self.assertEqual(show_plan(P2), (
            "job w 0 make:h\njob v 1 read:h:1\njob t 1 make:x\njob y 1 read:x:0\n"
            "wait v w 1\nwait w y 1\ngroup 2 h:0 x:1"
        ))


if __name__ == "__main__":
    unittest.main()
