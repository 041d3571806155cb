import itertools
import unittest

from everframe.errors import InvalidLead, TooMany
from everframe.leads import Lead, along, best
from tests.samples import ODD, E1, P1

MOST = 10 ** 6
VALUES = (None, 0, 1, -1, 2, -16, 3, MOST, -MOST, MOST - 1, 1 - MOST)


class TestLead(unittest.TestCase):
    def test_value(self):
        self.assertIsNone(Lead().value)
        for value in VALUES:
            self.assertEqual(Lead(value).value, value)
            self.assertEqual(Lead(value=value).value, value)
        self.assertEqual(Lead.MOST, MOST)
        self.assertEqual(Lead(3).MOST, MOST)

    def test_what_is_no_lead(self):
        wrong = [value for value in ODD if value not in (None, -1, 5) or isinstance(value, bool)]
        wrong += [MOST + 1, -MOST - 1, 10 ** 40 - 1, 1 - 10 ** 40, "3", "none", [3], (3,), {3: 3}]
        wrong += [Lead(3), E1, P1]
        for value in wrong:
            with self.assertRaises(InvalidLead) as caught:
                Lead(value)
            self.assertIs(caught.exception.value, value)
        with self.assertRaises(InvalidLead):
            Lead(value=True)

    def test_joined(self):
        for one, other in itertools.product(VALUES, VALUES):
            a, b = Lead(one), Lead(other)
            if one is None or other is None:
                self.assertIsNone((a * b).value)
            elif abs(one + other) <= MOST:
                self.assertEqual((a * b).value, one + other)
            else:
                with self.assertRaises(TooMany) as caught:
                    a * b
                self.assertEqual(caught.exception.limit, MOST)
            self.assertEqual((a.value, b.value), (one, other))

    def test_greater_one(self):
        for one, other in itertools.product(VALUES, VALUES):
            a, b = Lead(one), Lead(other)
            known = [value for value in (one, other) if value is not None]
            self.assertEqual((a + b).value, max(known, default=None))
            self.assertIsInstance(a + b, Lead)
            self.assertEqual((a.value, b.value), (one, other))

    def test_only_with_leads(self):
        for value in (3, None, True, "a", (), []):
            with self.assertRaises(TypeError):
                Lead(1) * value
            with self.assertRaises(TypeError):
                Lead(1) + value

    def test_equal(self):
        for one, other in itertools.product(VALUES, VALUES):
            self.assertEqual(Lead(one) == Lead(other), one == other)
            self.assertEqual(Lead(one) != Lead(other), one != other)
        for value in (*ODD, 0, 1, "none", E1, P1):
            for lead in (Lead(), Lead(0), Lead(1), Lead(5)):
                self.assertFalse(lead == value)
                self.assertFalse(value == lead)
                self.assertTrue(lead != value)
                self.assertTrue(value != lead)

    def test_bool(self):
        for value in VALUES:
            self.assertIs(bool(Lead(value)), value is not None)

    def test_str_and_repr(self):
        self.assertEqual([str(Lead(value)) for value in (None, 0, -2, 17)], ["none", "0", "-2", "17"])
        self.assertEqual(str(Lead(MOST)), "1000000")
        self.assertEqual(
            [repr(Lead(value)) for value in (None, 0, -2, 17)],
            ["Lead(None)", "Lead(0)", "Lead(-2)", "Lead(17)"],
        )


class TestSeveral(unittest.TestCase):
    def test_none_and_one(self):
        self.assertEqual(along(), Lead(0))
        self.assertEqual(best(), Lead())
        for value in VALUES:
            self.assertEqual(along(Lead(value)), Lead(value))
            self.assertEqual(best(Lead(value)), Lead(value))

    def test_along(self):
        self.assertEqual(along(Lead(-1), Lead(4), Lead(-2)), Lead(1))
        self.assertEqual(along(Lead(-1), Lead(), Lead(-2)), Lead())
        self.assertEqual(along(*[Lead(1)] * 1000), Lead(1000))

    def test_along_is_joined_from_the_left(self):
        with self.assertRaises(TooMany) as caught:
            along(Lead(MOST), Lead(1), Lead(-1))
        self.assertEqual(caught.exception.limit, MOST)
        with self.assertRaises(TooMany):
            along(Lead(-MOST), Lead(-1), Lead())
        self.assertEqual(along(Lead(MOST), Lead(-1), Lead(1)), Lead(MOST))
        self.assertEqual(along(Lead(), Lead(MOST), Lead(1)), Lead())

    def test_best(self):
        self.assertEqual(best(Lead(-3), Lead(), Lead(-1), Lead(-2)), Lead(-1))
        self.assertEqual(best(Lead(), Lead()), Lead())
        self.assertEqual(best(Lead(-MOST), Lead()), Lead(-MOST))

    def test_operands_stay(self):
        leads = [Lead(-1), Lead(), Lead(4)]
        along(*leads)
        best(*leads)
        self.assertEqual([lead.value for lead in leads], [-1, None, 4])


if __name__ == "__main__":
    unittest.main()
