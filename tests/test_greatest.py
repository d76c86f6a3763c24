"""Points 25 and 28, and what point 2 says of them."""

import signal
import unittest

from gainstream.fractions import Fraction
from gainstream.greatest import greatest

from helper import LONG, chances, long_number, num, plain, plains, small_number


def numbers_of(text):
    return [num(word) for word in text.split()]


def rows_of(text):
    return [numbers_of(row) for row in text.split(",")]


def product(some, other):
    return sum([one * two for one, two in zip(some, other)])


class Asking(unittest.TestCase):
    # Asks, looks at the answer by all that the point tells of it, and tells its word and worth.
    def looked(self, rows, bounds, gains):
        kept = [list(row) for row in rows], list(bounds), list(gains)
        told = greatest(rows, bounds, gains)
        self.assertEqual((rows, bounds, gains), kept)
        self.assertIs(type(told), tuple)
        plain_rows = [plains(row) for row in rows]
        ask = {"best": self.is_best, "none": self.is_none, "endless": self.is_endless}[told[0]]
        worth = ask(plain_rows, plains(bounds), plains(gains), *told[1:])
        return (told[0], None if worth is None else str(worth))

    def are_numbers(self, told, count):
        self.assertIs(type(told), list)
        self.assertEqual(len(told), count)
        numbers = plains(told)
        self.assertGreaterEqual(min(numbers + [0]), 0)
        return numbers

    def fit(self, rows, bounds, values):
        for row, bound in zip(rows, bounds):
            self.assertLessEqual(product(row, values), bound)

    def is_best(self, rows, bounds, gains, worth, values, prices):
        values = self.are_numbers(values, len(gains))
        prices = self.are_numbers(prices, len(bounds))
        self.fit(rows, bounds, values)
        self.assertEqual(product(gains, values), plain(worth))
        self.assertEqual(product(bounds, prices), plain(worth))
        for j, gain in enumerate(gains):
            self.assertLessEqual(gain, product([row[j] for row in rows], prices))
        return plain(worth)

    def is_none(self, rows, bounds, gains, weights):
        weights = self.are_numbers(weights, len(bounds))
        for j in range(len(gains)):
            self.assertGreaterEqual(product([row[j] for row in rows], weights), 0)
        self.assertLess(product(bounds, weights), 0)

    def is_endless(self, rows, bounds, gains, values, more):
        values = self.are_numbers(values, len(gains))
        more = self.are_numbers(more, len(gains))
        self.fit(rows, bounds, values)
        for row in rows:
            self.assertLessEqual(product(row, more), 0)
        self.assertGreater(product(gains, more), 0)


class Plainly(Asking):
    def test_best(self):
        told = self.looked(rows_of("1 1, 1 3"), numbers_of("4 6"), numbers_of("3 5"))
        self.assertEqual(told, ("best", "14"))
        self.assertEqual(self.looked(rows_of("2 1, 1 2"), numbers_of("1 1"), numbers_of("1 1")), ("best", "2/3"))
        self.assertEqual(greatest(rows=rows_of("1"), bounds=numbers_of("1"), gains=numbers_of("1"))[0], "best")

    def test_none(self):
        self.assertEqual(self.looked(rows_of("1 1, -1 -1"), numbers_of("1 -2"), numbers_of("3 5")), ("none", None))
        self.assertEqual(self.looked(rows_of("1, -1"), numbers_of("1 -1000001/1000000"), numbers_of("0"))[0], "none")
        self.assertEqual(self.looked(rows_of("1, -1"), numbers_of("1 -1"), numbers_of("1")), ("best", "1"))

    def test_endless(self):
        self.assertEqual(self.looked(rows_of("1 -1"), numbers_of("1"), numbers_of("1 0")), ("endless", None))
        self.assertEqual(self.looked(rows_of("1 -1, 1 -2"), numbers_of("-3 -5"), numbers_of("2 -1"))[0], "endless")
        self.assertEqual(self.looked(rows_of("1 -1, 1 -2"), numbers_of("-3 -5"), numbers_of("1 -1")), ("best", "-3"))

    def test_no_rows(self):
        self.assertEqual(self.looked([], [], numbers_of("0 -1 -2/3")), ("best", "0"))
        self.assertEqual(self.looked([], [], numbers_of("0 -1 1/9")), ("endless", None))

    def test_no_unknowns(self):
        self.assertEqual(self.looked([[], []], numbers_of("0 3"), []), ("best", "0"))
        self.assertEqual(self.looked([[], []], numbers_of("0 -1/7"), []), ("none", None))

    def test_neither(self):
        self.assertEqual(self.looked([], [], []), ("best", "0"))

    def test_one_unknown(self):
        for row, bound, gain, wanted in [
            ("2", "3", "5", ("best", "15/2")), ("2", "3", "-5", ("best", "0")), ("2", "-3", "5", ("none", None)),
            ("-2", "3", "5", ("endless", None)), ("-2", "-3", "-5", ("best", "-15/2")),
            ("0", "0", "1", ("endless", None)), ("0", "-1", "1", ("none", None)), ("0", "1", "-1", ("best", "0")),
            ("2", "0", "7", ("best", "0")), ("-2", "-3", "0", ("best", "0")), ("-2", "-3", "1", ("endless", None)),
        ]:
            self.assertEqual(self.looked([numbers_of(row)], numbers_of(bound), numbers_of(gain)), wanted)

    def test_bounds_under_nought(self):
        told = self.looked(rows_of("-1 -1, 1 0, 0 1"), numbers_of("-3 2 2"), numbers_of("-1 -3"))
        self.assertEqual(told, ("best", "-5"))
        told = self.looked(rows_of("-1 0, 0 -1, 1 1"), numbers_of("-1/2 -2/3 7/6"), numbers_of("1 9"))
        self.assertEqual(told, ("best", "13/2"))
        told = self.looked(rows_of("-1 0, 0 -1, 1 1"), numbers_of("-1/2 -2/3 1"), numbers_of("1 9"))
        self.assertEqual(told, ("none", None))
        told = self.looked(rows_of("-1 -1, -2 -2"), numbers_of("-3 -6"), numbers_of("-1 -2"))
        self.assertEqual(told, ("best", "-3"))

    def test_rows_of_noughts(self):
        self.assertEqual(self.looked(rows_of("0 0, 1 1"), numbers_of("0 2"), numbers_of("1 3")), ("best", "6"))
        self.assertEqual(self.looked(rows_of("0 0, 1 1"), numbers_of("-1 2"), numbers_of("1 3")), ("none", None))
        self.assertEqual(self.looked(rows_of("0 0"), numbers_of("5"), numbers_of("0 0")), ("best", "0"))

    def test_unknowns_of_noughts(self):
        self.assertEqual(self.looked(rows_of("0 1"), numbers_of("2"), numbers_of("0 3")), ("best", "6"))
        self.assertEqual(self.looked(rows_of("0 1"), numbers_of("2"), numbers_of("1/9 3")), ("endless", None))
        self.assertEqual(self.looked(rows_of("0 1"), numbers_of("-2"), numbers_of("1/9 3")), ("none", None))

    def test_rows_that_come_twice(self):
        self.assertEqual(self.looked(rows_of("1 2, 1 2, 2 4"), numbers_of("3 3 6"), numbers_of("1 1")), ("best", "3"))
        told = self.looked(rows_of("-1 -1, -1 -1, 1 1, 1 1"), numbers_of("-2 -2 2 2"), numbers_of("1 3"))
        self.assertEqual(told, ("best", "6"))

    def test_what_is_told_is_the_askers_own(self):
        rows, bounds, gains = rows_of("2 1, 1 2"), numbers_of("1 1"), numbers_of("1 1")
        told = greatest(rows, bounds, gains)
        rows[0][0] = LONG
        bounds.clear()
        gains[0] = LONG
        self.assertEqual((told[1].shown(), [value.shown() for value in told[2]]), ("2/3", ["1/3", "1/3"]))
        told[2].clear()
        told[3].clear()
        self.assertEqual(self.looked(rows_of("2 1, 1 2"), numbers_of("1 1"), numbers_of("1 1")), ("best", "2/3"))


# Choices that are as good as one another, so that careless exchanges would go round without end.
class Ties(Asking):
    def setUp(self):
        signal.signal(signal.SIGALRM, self.goes_round)
        signal.alarm(60)

    def tearDown(self):
        signal.alarm(0)

    def goes_round(self, number, frame):
        self.fail("it goes round without end")

    def test_known_rounds(self):
        told = self.looked(rows_of("1/4 -60 -1/25 9, 1/2 -90 -1/50 3, 0 0 1 0"), numbers_of("0 0 1"),
                           numbers_of("3/4 -150 1/50 -6"))
        self.assertEqual(told, ("best", "1/20"))
        told = self.looked(rows_of("1/2 -11/2 -5/2 9, 1/2 -3/2 -1/2 1, 1 0 0 0"), numbers_of("0 0 1"),
                           numbers_of("10 -57 -9 -24"))
        self.assertEqual(told, ("best", "1"))
        told = self.looked(rows_of("-2 -9 1 9, 1/3 1 -1/3 -2"), numbers_of("0 0"), numbers_of("2 3 -1 -12"))
        self.assertEqual(told, ("endless", None))
        told = self.looked(rows_of("1/4 -8 -1 9, 1/2 -12 -1/2 3, 0 0 1 0"), numbers_of("0 0 1"),
                           numbers_of("3/4 -20 1/2 -6"))
        self.assertEqual(told, ("best", "5/4"))

    # With these it goes round without end where the greatest number in the row is always what comes in.
    def test_rounds_of_the_greatest_numbers(self):
        for rows, gains, wanted in [
            ("-1 -4 9 6 -18 -1, -5 -1 8 5 -5 -10, -2 6 0 -2 -5 -11, 0 -6 -11 10 -4 0", "-4 -6 -54 20 -50 -113", "best"),
            ("-1 1 8 2 -55 -1, -2 -10 35 7 -24 -6, 1 10 -1 -21 -5 9, 6 -18 0 -1 -11 12", "10 -44 7 5 -69 6", "endless"),
            ("0 1 -4 2 -2 2, 1 -2 -21 -1 7 11, 16 -3 -1 -5 3 304", "57 3 -27 -52 -21 204", "endless"),
        ]:
            rows = rows_of(rows)
            self.assertEqual(self.looked(rows, [Fraction(0)] * len(rows), numbers_of(gains))[0], wanted)

    def test_rounds_ahead_of_the_first_fitting_values(self):
        for rows in ["7 -9 -6 22 -12 -5, 0 2 -5 9 10 -5, -62 -13 5 5 -11 15, -4 -1 1 -1 5 17",
                     "-37 0 -15 -3 21, 1 -6 -14 5 -7, -3 -2 23 -6 -204, 0 -1 3 5 13, -2 0 1 1 6"]:
            rows = rows_of(rows)
            gains = [Fraction(0)] * len(rows[0])
            self.assertIn(self.looked(rows, [Fraction(-1)] * len(rows), gains)[0], ["best", "none"])

    def test_all_bounds_nought(self):
        seen = []
        for chance in chances(60):
            n, m = chance.randint(2, 9), chance.randint(2, 9)
            rows = [[Fraction(chance.randint(-1, 1)) for j in range(n)] for i in range(m)]
            gains = [Fraction(chance.randint(-2, 1)) for j in range(n)]
            seen.append(self.looked(rows, [Fraction(0)] * m, gains)[0])
        self.assertEqual(set(seen), {"best", "endless"})

    # Who does what: each of six works at one of six things, and each thing has one.
    def test_pairs(self):
        for chance in chances(6):
            rows, bounds = [], []
            for i in range(6):
                for row in [[k // 6 == i for k in range(36)], [k % 6 == i for k in range(36)]]:
                    for sign in [1, -1]:
                        rows.append([Fraction(sign * one) for one in row])
                        bounds.append(Fraction(sign))
            gains = [Fraction(chance.randint(0, 3)) for k in range(36)]
            self.assertEqual(self.looked(rows, bounds, gains)[0], "best")


class Many(Asking):
    def test_by_chance(self):
        seen = []
        for chance in chances(1500):
            n, m = chance.randint(0, 5), chance.randint(0, 5)
            low = chance.choice([-3, -1, 0])
            rows = [[small_number(chance, low, 3) for j in range(n)] for i in range(m)]
            bounds = [small_number(chance, chance.choice([-2, 0]), 4) for i in range(m)]
            seen.append(self.looked(rows, bounds, [small_number(chance, -3, 3) for j in range(n)])[0])
        self.assertGreater(min([seen.count(word) for word in ("best", "none", "endless")]), 200)

    # The order of rows and unknowns changes neither the word nor the worth.
    def test_in_another_order(self):
        for chance in chances(200):
            n, m = chance.randint(1, 6), chance.randint(1, 6)
            rows = [[small_number(chance, -2, 3) for j in range(n)] for i in range(m)]
            bounds = [small_number(chance, -1, 4) for i in range(m)]
            gains = [small_number(chance, -3, 3) for j in range(n)]
            down, over = chance.sample(range(m), m), chance.sample(range(n), n)
            turned = [[rows[i][j] for j in over] for i in down]
            self.assertEqual(self.looked(rows, bounds, gains),
                             self.looked(turned, [bounds[i] for i in down], [gains[j] for j in over]))

    # Rows around chosen values and gains below chosen prices: there is a best.
    def great(self, chance, size, figures, filled):
        most = 10 ** figures
        rows = [[Fraction(chance.randint(-most, most) if chance.random() < filled else 0) for j in range(size)]
                for i in range(size)]
        values = [Fraction(chance.randint(0, 3)) for j in range(size)]
        prices = [Fraction(chance.randint(0, 3)) for i in range(size)]
        bounds = [Fraction(sum([one.top * two.top for one, two in zip(row, values)]) + chance.randint(0, most))
                  for row in rows]
        gains = [Fraction(sum([rows[i][j].top * prices[i].top for i in range(size)]) - chance.randint(0, most))
                 for j in range(size)]
        return rows, bounds, gains

    def test_forty_rows_and_forty_unknowns(self):
        for chance in chances(4):
            self.assertEqual(self.looked(*self.great(chance, 40, 2, 0.3))[0], "best")
            self.assertEqual(self.looked(*self.great(chance, 40, 1, 1))[0], "best")
            rows = [[Fraction(chance.choice([-1, 0, 0, 0, 1])) for j in range(40)] for i in range(40)]
            bounds = [Fraction(chance.choice([0, 0, 1])) for i in range(40)]
            self.looked(rows, bounds, [Fraction(chance.randint(-3, 2)) for j in range(40)])
            self.looked(rows, [Fraction(chance.choice([-1, 0, 1])) for i in range(40)], [Fraction(1)] * 40)

    def test_forty_fractions_square(self):
        chance = chances(1)[0]
        rows = [[small_number(chance, 0, 9) for j in range(40)] for i in range(40)]
        self.assertEqual(self.looked(rows, [small_number(chance, 1, 9) for i in range(40)],
                                     [small_number(chance, -2, 9) for j in range(40)])[0], "best")

    def test_many_figures(self):
        for chance in chances(6):
            rows = [[long_number(chance) for j in range(6)] for i in range(6)]
            bounds = [long_number(chance) for i in range(6)]
            self.assertEqual(self.looked(rows, bounds, [long_number(chance) for j in range(6)])[0], "best")
            self.looked(*self.great(chance, 12, 60, 0.5))
            signs = [[number.times(Fraction(chance.choice([-1, 1]))) for number in row] for row in rows]
            self.looked(signs, [number.times(Fraction(chance.choice([-1, 1]))) for number in bounds], bounds)

    # What is told may be handed in again, however many figures it has.
    def test_what_is_told_is_handed_in_again(self):
        chance = chances(1)[0]
        rows = [[long_number(chance) for j in range(5)] for i in range(5)]
        bounds = [long_number(chance) for i in range(5)]
        told = greatest(rows, bounds, [long_number(chance) for j in range(5)])
        self.assertEqual(self.looked(rows, told[2], told[3])[0], "best")


if __name__ == "__main__":
    unittest.main()
