"""The interface of gainstream/errors.py."""

import unittest

from gainstream import errors
from gainstream.fractions import Fraction

OF_A_TEXT = ["NoNumber", "TooMany", "NoRing", "NoStrand", "NoExchange", "NoText", "NoRow"]
OF_A_NAME = ["NoWay", "Broken", "Twice"]
OTHERS = ["NoPlace", "OverBound", "Short"]
ALL = OF_A_TEXT + OF_A_NAME + OTHERS


def named(name):
    return getattr(errors, name)


class Standing(unittest.TestCase):
    def test_gain_error_stands_straight_under_value_error(self):
        self.assertEqual(errors.GainError.__bases__, (ValueError,))

    def test_each_stands_straight_under_gain_error(self):
        for name in ALL:
            with self.subTest(name):
                self.assertEqual(named(name).__bases__, (errors.GainError,))
                self.assertTrue(issubclass(named(name), ValueError))

    def test_none_stands_under_another_one(self):
        for name in ALL:
            for other in ALL:
                if name != other:
                    with self.subTest(name, other=other):
                        self.assertFalse(issubclass(named(name), named(other)))

    def test_each_has_its_own_name(self):
        for name in ["GainError"] + ALL:
            self.assertEqual(named(name).__name__, name)


class Fields(unittest.TestCase):
    def test_made_of_one_text(self):
        for name in ["GainError"] + OF_A_TEXT:
            with self.subTest(name):
                with self.assertRaises(errors.GainError) as caught:
                    raise named(name)("some words")
                self.assertIs(type(caught.exception), named(name))
                self.assertIn("some words", str(caught.exception))

    def test_made_of_a_name(self):
        for name in OF_A_NAME:
            with self.subTest(name):
                with self.assertRaises(errors.GainError) as caught:
                    raise named(name)("w.1")
                self.assertIs(type(caught.exception), named(name))
                self.assertEqual(caught.exception.name, "w.1")
                self.assertEqual(named(name)(name="v").name, "v")

    def test_no_place(self):
        self.assertEqual(errors.NoPlace("a.b").place, "a.b")
        self.assertEqual(errors.NoPlace(place="c").place, "c")

    def test_over_bound(self):
        bound = Fraction(7, 2)
        for error in [errors.OverBound("w", bound), errors.OverBound(name="w", bound=bound)]:
            self.assertEqual(error.name, "w")
            self.assertIs(error.bound, bound)

    def test_short(self):
        lacking = Fraction(1, 3)
        for error in [errors.Short("a", lacking), errors.Short(place="a", lacking=lacking)]:
            self.assertEqual(error.place, "a")
            self.assertIs(error.lacking, lacking)

    def test_numbers_too_long_for_a_text_are_told_all_the_same(self):
        long = Fraction(10 ** 6000 + 1, 3 ** 12000)
        self.assertIs(errors.OverBound("w", long).bound, long)
        self.assertIs(errors.Short("a", long).lacking, long)
        str(errors.OverBound("w", long))
        str(errors.Short("a", long))


if __name__ == "__main__":
    unittest.main()
