"""Points 4, 5 and 6, and what point 2 says of Fractions."""

import fractions
import math
import random
import unittest

from gainstream.errors import GainError, NoNumber
from gainstream.fractions import Fraction, divisor, total

SMALL = [Fraction(top, bottom) for top in range(-6, 7) for bottom in [-9, -4, -1, 1, 2, 3, 6, 12]]


def long_whole(chance, figures):
    whole = chance.randrange(10 ** (figures - 1), 10 ** figures)
    return -whole if chance.random() < 0.5 else whole


# Pairs with a common part are the ones in which something cancels.
def long_pair(chance, figures):
    shared = chance.choice([1, 2 ** 20, 3 ** 30, 10 ** 25])
    return long_whole(chance, figures) * shared, long_whole(chance, figures) * shared


def long_ones():
    chance = random.Random(5)
    pairs = [long_pair(chance, figures) for figures in [1, 60, 61, 120, 300] for again in range(4)]
    shared = 7 ** 60 * 2 ** 40
    pairs.extend([(1, shared), (-1, shared), (shared, 3), (shared - 1, shared * 5), (0, shared)])
    return [Fraction(top, bottom) for top, bottom in pairs]


def plain(number):
    return fractions.Fraction(number.top, number.bottom)


class Asking(unittest.TestCase):
    def is_whole(self, value, wanted):
        self.assertIs(type(value), int)
        self.assertEqual(value, wanted)

    def is_fraction(self, number, top, bottom):
        self.assertIs(type(number), Fraction)
        self.is_whole(number.top, top)
        self.is_whole(number.bottom, bottom)

    def is_like(self, number, wanted):
        self.is_fraction(number, wanted.numerator, wanted.denominator)


class Divisor(Asking):
    def test_either_sign(self):
        for one, other in [(12, 18), (-12, 18), (12, -18), (-12, -18), (18, 12)]:
            self.is_whole(divisor(one, other), 6)
        self.is_whole(divisor(7, 9), 1)
        self.is_whole(divisor(5, 5), 5)
        self.is_whole(divisor(-5, 5), 5)
        self.is_whole(divisor(1, -1), 1)
        self.is_whole(divisor(4, 12), 4)

    def test_nought_and_another(self):
        for other in [1, -1, 2, 7, -7, 10 ** 299, -(10 ** 299)]:
            self.is_whole(divisor(0, other), abs(other))
            self.is_whole(divisor(other, 0), abs(other))

    def test_nought_and_nought(self):
        self.is_whole(divisor(0, 0), 0)

    def test_all_small_ones(self):
        for one in range(-20, 21):
            for other in range(-20, 21):
                self.is_whole(divisor(one, other), math.gcd(one, other))

    def test_three_hundred_figures(self):
        chance = random.Random(4)
        for again in range(30):
            shared = abs(long_whole(chance, 150))
            one = long_whole(chance, 150) * shared
            other = long_whole(chance, 150) * shared
            self.is_whole(divisor(one, other), math.gcd(one, other))
        one = 2 ** 500 * 3 ** 300
        other = -(2 ** 400) * 3 ** 320
        self.is_whole(divisor(one, other), 2 ** 400 * 3 ** 300)
        self.is_whole(divisor(10 ** 299 + 1, 10 ** 299), 1)

    def test_neighbours_of_the_golden_row(self):
        one, other = 1, 1
        while len(str(one)) < 300:
            one, other = one + other, one
        self.is_whole(divisor(one, other), 1)
        self.is_whole(divisor(other, -one), 1)

    def test_arguments_by_name(self):
        self.is_whole(divisor(one=4, other=6), 2)


class Making(Asking):
    def test_lowest_terms_of_either_sign(self):
        self.is_fraction(Fraction(6, 4), 3, 2)
        self.is_fraction(Fraction(-6, 4), -3, 2)
        self.is_fraction(Fraction(6, -4), -3, 2)
        self.is_fraction(Fraction(-6, -4), 3, 2)
        self.is_fraction(Fraction(4, 2), 2, 1)
        self.is_fraction(Fraction(2, 4), 1, 2)
        self.is_fraction(Fraction(3, 3), 1, 1)
        self.is_fraction(Fraction(3, -3), -1, 1)

    def test_nought(self):
        for bottom in [1, -1, 5, -5, 10 ** 299]:
            self.is_fraction(Fraction(0, bottom), 0, 1)
        self.is_fraction(Fraction(0), 0, 1)

    def test_bottom_left_out(self):
        for top in [0, 1, -1, 7, -7, 10 ** 299]:
            self.is_fraction(Fraction(top), top, 1)

    def test_arguments_by_name(self):
        self.is_fraction(Fraction(top=4, bottom=6), 2, 3)

    def test_all_small_ones(self):
        for top in range(-15, 16):
            for bottom in list(range(-15, 0)) + list(range(1, 16)):
                self.is_like(Fraction(top, bottom), fractions.Fraction(top, bottom))

    def test_long_ones(self):
        chance = random.Random(6)
        for figures in [60, 150, 270]:
            for again in range(10):
                top, bottom = long_pair(chance, figures)
                self.is_like(Fraction(top, bottom), fractions.Fraction(top, bottom))

    def test_second_nought_is_refused(self):
        for top in [0, 1, -1, 10 ** 299]:
            with self.assertRaises(NoNumber) as caught:
                Fraction(top, 0)
            self.assertIs(type(caught.exception), NoNumber)
            self.assertIsInstance(caught.exception, GainError)


class Reckoning(Asking):
    def reckon(self, one, other):
        before = (one.top, one.bottom, other.top, other.bottom)
        self.is_like(one.plus(other), plain(one) + plain(other))
        self.is_like(one.minus(other), plain(one) - plain(other))
        self.is_like(one.times(other), plain(one) * plain(other))
        self.assertIs(one.under(other), plain(one) < plain(other))
        self.assertIs(one.same(other), plain(one) == plain(other))
        if other.top == 0:
            with self.assertRaises(NoNumber):
                one.over(other)
        else:
            self.is_like(one.over(other), plain(one) / plain(other))
        self.assertEqual((one.top, one.bottom, other.top, other.bottom), before)

    def test_small_ones(self):
        for one in SMALL:
            for other in SMALL:
                self.reckon(one, other)

    def test_long_ones(self):
        some = long_ones()
        for one in some:
            for other in some:
                self.reckon(one, other)

    def test_long_beside_small(self):
        for one in long_ones():
            for other in SMALL[::5]:
                self.reckon(one, other)
                self.reckon(other, one)

    def test_one_with_itself(self):
        for one in SMALL + long_ones():
            self.reckon(one, one)

    def test_plainly(self):
        half = Fraction(1, 2)
        third = Fraction(-1, 3)
        self.is_fraction(half.plus(third), 1, 6)
        self.is_fraction(half.minus(third), 5, 6)
        self.is_fraction(half.times(third), -1, 6)
        self.is_fraction(half.over(third), -3, 2)
        self.is_fraction(third.over(third), 1, 1)
        self.is_fraction(half.minus(half), 0, 1)
        self.is_fraction(half.plus(half), 1, 1)
        self.assertIs(third.under(half), True)
        self.assertIs(half.under(third), False)
        self.assertIs(half.under(half), False)
        self.assertIs(half.same(Fraction(-3, -6)), True)
        self.assertIs(half.same(Fraction(-1, 2)), False)
        self.assertIs(half.same(Fraction(1, 3)), False)

    def test_nearest_neighbours_are_told_apart(self):
        far = 10 ** 299
        one = Fraction(far, far + 1)
        other = Fraction(far - 1, far)
        self.assertIs(other.under(one), True)
        self.assertIs(one.under(other), False)
        self.assertIs(one.same(other), False)
        self.is_fraction(one.minus(other), 1, far * (far + 1))

    def test_over_nought_is_refused(self):
        for one in [Fraction(0), Fraction(1), Fraction(-5, 3), Fraction(10 ** 80, 7)]:
            for nought in [Fraction(0), Fraction(0, -8), one.minus(one)]:
                with self.assertRaises(NoNumber) as caught:
                    one.over(nought)
                self.assertIs(type(caught.exception), NoNumber)

    def test_nought_over_another(self):
        self.is_fraction(Fraction(0).over(Fraction(-7, 3)), 0, 1)

    def test_sign(self):
        for number in SMALL + long_ones():
            wanted = (number.top > 0) - (number.top < 0)
            self.is_whole(number.sign(), wanted)
        self.is_whole(Fraction(3, -4).sign(), -1)
        self.is_whole(Fraction(-3, -4).sign(), 1)
        self.is_whole(Fraction(0, -4).sign(), 0)

    def test_what_is_told_is_reckoned_with_again(self):
        number = Fraction(1)
        wanted = fractions.Fraction(1)
        for step in range(2, 90):
            number = number.times(Fraction(step, step + 2)).plus(Fraction(-1, step * step)).over(Fraction(-2, 3))
            wanted = (wanted * fractions.Fraction(step, step + 2) - fractions.Fraction(1, step * step)) \
                / fractions.Fraction(-2, 3)
            self.is_like(number, wanted)


class Totals(Asking):
    def test_of_none(self):
        self.is_fraction(total([]), 0, 1)

    def test_of_one(self):
        self.is_fraction(total([Fraction(-6, 4)]), -3, 2)

    def test_of_several(self):
        self.is_fraction(total([Fraction(1, 2), Fraction(1, 3), Fraction(1, 6)]), 1, 1)
        self.is_fraction(total([Fraction(1, 2), Fraction(-1, 2)]), 0, 1)
        self.is_fraction(total(some=[Fraction(5), Fraction(-7, 3)]), 8, 3)

    def test_of_long_ones(self):
        some = long_ones()
        self.is_like(total(some), sum([plain(number) for number in some]))

    # So many that a search for the divisor of whole results would not end soon.
    def test_of_two_hundred_of_three_hundred_figures(self):
        chance = random.Random(7)
        some = [Fraction(long_whole(chance, 300), long_whole(chance, 300)) for again in range(200)]
        bottom = math.lcm(*[number.bottom for number in some])
        top = sum([number.top * (bottom // number.bottom) for number in some])
        told = total(some)
        self.assertEqual(told.top * bottom, top * told.bottom)
        self.assertEqual(math.gcd(told.top, told.bottom), 1)
        self.assertGreater(told.bottom, 0)

    def test_of_bottoms_with_much_in_common(self):
        chance = random.Random(8)
        for again in range(400):
            bottoms = chance.choice([[2, 4, 8, 16], [1, 2, 3, 4, 6, 9, 12, 18, 36], [6, 10, 15, 30, 210]])
            some = [Fraction(chance.randint(-9, 9), chance.choice(bottoms)) for k in range(chance.randint(0, 12))]
            self.is_like(total(some), sum([plain(number) for number in some]))
            other = [Fraction(-number.top, number.bottom) for number in some]
            self.is_fraction(total(some + other[::-1]), 0, 1)

    def test_the_list_stays(self):
        some = [Fraction(1, 2), Fraction(1, 3), Fraction(1, 2)]
        kept = list(some)
        before = [(number.top, number.bottom) for number in some]
        total(some)
        self.assertEqual(len(some), len(kept))
        self.assertTrue(all(one is other for one, other in zip(some, kept)))
        self.assertEqual([(number.top, number.bottom) for number in some], before)

    def test_changing_the_list_later_changes_nothing(self):
        some = [Fraction(1, 2), Fraction(1, 3)]
        told = total(some)
        some.append(Fraction(9))
        some[0] = Fraction(100)
        self.is_fraction(told, 5, 6)


class Showing(unittest.TestCase):
    def test_shown(self):
        for number, text in [
            (Fraction(3), "3"), (Fraction(-3, 2), "-3/2"), (Fraction(3, -2), "-3/2"), (Fraction(0), "0"),
            (Fraction(0, -7), "0"), (Fraction(-1), "-1"), (Fraction(1, 10), "1/10"), (Fraction(6, 3), "2"),
            (Fraction(-4, -6), "2/3"), (Fraction(-5, 1), "-5"), (Fraction(12, 100), "3/25"),
            (Fraction(10 ** 60, 3), "1" + "0" * 60 + "/3"), (Fraction(-1, 10 ** 299), "-1/1" + "0" * 299),
        ]:
            with self.subTest(text):
                self.assertEqual(number.shown(), text)

    def test_results_are_shown_in_lowest_terms(self):
        half = Fraction(1, 2)
        self.assertEqual(half.plus(half).shown(), "1")
        self.assertEqual(half.minus(half).shown(), "0")
        self.assertEqual(half.over(Fraction(-3)).shown(), "-1/6")
        self.assertEqual(half.times(Fraction(-4)).shown(), "-2")

    def test_four_thousand_figures(self):
        text = "7" * 4000
        self.assertEqual(Fraction(int(text)).shown(), text)
        self.assertEqual(Fraction(-1, int(text)).shown(), "-1/" + text)


if __name__ == "__main__":
    unittest.main()
