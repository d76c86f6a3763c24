"""Point 36."""

import unittest

from gainstream.errors import NoText
from gainstream.fractions import Fraction
from gainstream.texts import is_name, read_fraction

GOOD = [("0", 0, 1), ("1", 1, 1), ("-1", -1, 1), ("7", 7, 1), ("10", 10, 1), ("-305", -305, 1), ("1/2", 1, 2),
        ("-1/2", -1, 2), ("3/2", 3, 2), ("-3/2", -3, 2), ("10/3", 10, 3), ("3/10", 3, 10), ("100/101", 100, 101),
        ("999999999", 999999999, 1), ("-999999999", -999999999, 1), ("999999999/999999998", 999999999, 999999998),
        ("-1/999999999", -1, 999999999), ("123456789/2", 123456789, 2), ("1/100000000", 1, 100000000)]

BAD = [
    "", " ", "  ", "1 ", " 1", "1 /2", "1/ 2", "- 1", "1 2", "1\n", "\n1", "1\t", "1/2\n",
    "+1", "+0", "+1/2", "1/+2", "-", "--1", "-/2", "-+1", "1-", "1-2",
    "-0", "-0/2", "0/2", "0/1", "0/0", "-0/1", "00", "000",
    "01", "-01", "007", "01/2", "1/02", "-1/02", "1/002", "010/3",
    "1/0", "1/1", "7/1", "-1/1", "5/0", "1/-2", "-1/-2",
    "2/4", "-2/4", "3/3", "6/3", "4/2", "10/5", "15/10", "999999999/9",
    "1000000000", "-1000000000", "1234567890", "1/1000000000", "1/1234567891", "1000000001/2", "0000000001",
    "12345678901234567890", "1/99999999999999999999",
    "1/2/3", "1//2", "/", "//", "/2", "1/", "-1/", "1/2/",
    "a", "1a", "a1", "1/a", "a/2", "0x1", "1e3", "1.5", "1,5", "1.", ".5", "1_000", "1_0/3", "1/1_1",
    "\u0661", "\u0663/\u0662", "\uff11", "1/\uff12", "\u00b2", "\u00bd", "1\u20442", "\u22121", "\u2460", "\u096a",
    "1\u00a0", "\u30001", "1\x00", "\x00", "inf", "nan", "None", "True", "one",
]

NAMES = ["a", "z", "b", "ab", "abcdefgh", "zzzzzzzz", "way", "place", "mill", "none", "ok"]

NO_NAMES = [
    "", " ", "A", "aB", "Ab", "abcdefghi", "zzzzzzzzz", "a1", "1", "1a", "a.", "a.b", ".", "a b", " a", "a ", "a\n",
    "\na", "a_b", "_", "a-b", "-", "\u00e4", "\u00df", "\u00e9", "a\u0301", "\u0430", "\uff41", "\u00aa", "\u0131",
    "a\x00", "a\t", "a" * 100, "a/b", "`", "{", "@", "[",
]


class Fractions(unittest.TestCase):
    def refused(self, text):
        with self.assertRaises(NoText) as caught:
            read_fraction(text)
        self.assertIs(type(caught.exception), NoText)

    def test_texts_of_fractions(self):
        for text, top, bottom in GOOD:
            with self.subTest(text):
                told = read_fraction(text)
                self.assertIs(type(told), Fraction)
                self.assertEqual((told.top, told.bottom), (top, bottom))
                self.assertEqual(told.shown(), text)

    def test_texts_that_are_none(self):
        for text in BAD:
            with self.subTest(ascii(text)):
                self.refused(text)

    def test_name_of_the_argument(self):
        self.assertEqual(read_fraction(text="1/2").bottom, 2)

    # Of the small ones just those that a fraction is shown as.
    def test_all_small_ones(self):
        shown = []
        for top in range(-30, 31):
            for bottom in range(1, 31):
                shown.append(Fraction(top, bottom).shown())
        for top in range(-30, 31):
            for bottom in range(-3, 31):
                text = str(top) + "/" + str(bottom)
                if text in shown:
                    self.assertEqual(read_fraction(text).shown(), text)
                else:
                    self.refused(text)
            self.assertEqual(read_fraction(str(top)).top, top)

    def test_all_short_texts_of_some_signs(self):
        signs = "-/012 +"
        texts = [one + two + three + four for one in ["", *signs] for two in signs for three in signs for four in signs]
        taken = []
        for text in texts:
            try:
                read_fraction(text)
            except NoText:
                continue
            taken.append(text)
        wanted = set(texts) & self.wanted_of_signs()
        self.assertEqual(sorted(taken), sorted(wanted))
        self.assertIn("1/22", taken)

    def wanted_of_signs(self):
        wholes = [whole for whole in range(2223) if set(str(whole)) <= set("012")]
        shown = {str(sign * whole) for sign in (1, -1) for whole in wholes}
        for top in wholes[:20]:
            for bottom in wholes[1:20]:
                number = Fraction(top, bottom)
                if (number.top, number.bottom) == (top, bottom):
                    shown.update([number.shown(), Fraction(-top, bottom).shown()])
        return shown


class Names(unittest.TestCase):
    def test_names(self):
        for text in NAMES:
            self.assertIs(is_name(text), True)
        for sign in "abcdefghijklmnopqrstuvwxyz":
            self.assertIs(is_name(sign), True)
            self.assertIs(is_name(text=sign * 8), True)
            self.assertIs(is_name(sign * 9), False)
            self.assertIs(is_name(sign.upper()), False)

    def test_what_is_no_name(self):
        for text in NO_NAMES:
            with self.subTest(ascii(text)):
                self.assertIs(is_name(text), False)


if __name__ == "__main__":
    unittest.main()
