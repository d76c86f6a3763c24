"""Points 25, 26 and 27, and what point 2 says of grids."""

import fractions
import unittest

from gainstream.errors import NoExchange
from gainstream.fractions import Fraction
from gainstream.grids import exchanged, grid

from helper import LONG, chances, long_number, num, plain, plains, small_number


def numbers_of(text):
    return [num(word) for word in text.split()]


def table_of(told):
    return [[number.shown() for number in row] for row in told[2]]


def look_of(told):
    return (list(told[0]), list(told[1]), table_of(told))


# The values of the tops make those of the lefts.
def filled(told, values):
    lefts, tops, table = told
    known = dict(zip(tops, values))
    for left, row in zip(lefts, table):
        known[left] = plain(row[0]) + sum([plain(number) * known[top] for number, top in zip(row[1:], tops)])
    return known


def fits(told, known):
    lefts, tops, table = told
    return filled(told, [known[top] for top in tops]) == known


class Asking(unittest.TestCase):
    def is_grid(self, told):
        self.assertEqual([type(one) for one in told], [list, list, list])
        self.assertIs(type(told), tuple)
        for row in told[2]:
            self.assertIs(type(row), list)
            self.assertEqual([type(number) for number in row], [Fraction] * (len(told[1]) + 1))


class Grids(Asking):
    def test_plainly(self):
        told = grid([numbers_of("1 -2/3"), numbers_of("0 5"), numbers_of("1 1")], numbers_of("4 -1 0"), 2)
        self.is_grid(told)
        wanted = ([2, 3, 4], [0, 1], [["4", "-1", "2/3"], ["-1", "0", "-5"], ["0", "-1", "-1"]])
        self.assertEqual(look_of(told), wanted)

    def test_without_rows(self):
        self.assertEqual(grid([], [], 3), ([], [0, 1, 2], []))

    def test_without_unknowns(self):
        self.assertEqual(look_of(grid([[], []], numbers_of("1 -2"), 0)), ([0, 1], [], [["1"], ["-2"]]))

    def test_without_either(self):
        self.assertEqual(grid(rows=[], bounds=[], n=0), ([], [], []))

    def test_what_is_handed_in_stays_and_what_is_told_is_new(self):
        rows, bounds = [numbers_of("1 2"), numbers_of("3 4")], numbers_of("5 6")
        kept = [list(row) for row in rows], list(bounds)
        told = grid(rows, bounds, 2)
        before = look_of(told)
        self.assertEqual((rows, bounds), kept)
        rows[0][0] = LONG
        rows.pop()
        bounds.clear()
        self.assertEqual(look_of(told), before)
        again = grid([numbers_of("1 2")], numbers_of("3"), 2)
        again[0].append(9)
        again[2][0][0] = LONG
        self.assertEqual(look_of(grid([numbers_of("1 2")], numbers_of("3"), 2)), ([2], [0, 1], [["3", "-1", "-2"]]))

    # Slacks are what lacks to the bounds.
    def test_slacks(self):
        for chance in chances(20):
            rows = [[small_number(chance, -4, 4) for j in range(3)] for i in range(4)]
            bounds = [small_number(chance, -4, 4) for i in range(4)]
            values = [fractions.Fraction(chance.randint(-5, 5), 3) for j in range(3)]
            known = filled(grid(rows, bounds, 3), values)
            for i in range(4):
                used = sum([number * value for number, value in zip(plains(rows[i]), values)])
                self.assertEqual(known[3 + i], plain(bounds[i]) - used)


class Exchanged(Asking):
    def test_plainly(self):
        first = grid([numbers_of("2 4"), numbers_of("1 3")], numbers_of("6 5"), 2)
        told = exchanged(first, 0, 1)
        self.is_grid(told)
        self.assertEqual(look_of(told), ([1, 3], [0, 2], [["3/2", "-1/2", "-1/4"], ["1/2", "1/2", "3/4"]]))
        self.assertEqual(look_of(exchanged(grid=first, i=1, j=0)),
                         ([2, 0], [3, 1], [["-4", "2", "2"], ["5", "-1", "-3"]]))

    def test_one_by_one(self):
        told = exchanged(grid([numbers_of("-2")], numbers_of("3"), 1), 0, 0)
        self.assertEqual(look_of(told), ([0], [1], [["-3/2", "1/2"]]))

    def test_a_number_of_nought(self):
        first = grid([numbers_of("0 1"), numbers_of("1 0")], numbers_of("1 1"), 2)
        for i, j in [(0, 0), (1, 1)]:
            with self.assertRaises(NoExchange) as caught:
                exchanged(first, i, j)
            self.assertIs(type(caught.exception), NoExchange)
        self.assertEqual(look_of(exchanged(first, 0, 1))[0], [1, 3])

    # Such a number comes by exchanges, too.
    def test_a_number_that_came_to_nought(self):
        first = grid([numbers_of("1 2"), numbers_of("2 4")], numbers_of("1 1"), 2)
        second = exchanged(first, 0, 0)
        with self.assertRaises(NoExchange):
            exchanged(second, 1, 1)

    def test_the_grid_stays_and_what_is_told_is_new(self):
        first = grid([numbers_of("2 4"), numbers_of("1 3")], numbers_of("6 5"), 2)
        before = look_of(first)
        told = exchanged(first, 0, 1)
        self.assertEqual(look_of(first), before)
        kept = look_of(told)
        first[0].clear()
        first[1][0] = 77
        first[2][1][0] = LONG
        first[2].pop(0)
        self.assertEqual(look_of(told), kept)
        other = grid([numbers_of("2 4"), numbers_of("1 3")], numbers_of("6 5"), 2)
        again = exchanged(other, 0, 1)
        again[2][0][0] = LONG
        again[2][1][0] = LONG
        again[0].pop()
        self.assertEqual(look_of(other), before)

    def go(self, chance, told, steps):
        for step in range(steps):
            i, j = chance.randrange(len(told[0])), chance.randrange(len(told[1]))
            if told[2][i][j + 1].sign() == 0:
                with self.assertRaises(NoExchange):
                    exchanged(told, i, j)
                continue
            other = exchanged(told, i, j)
            self.is_grid(other)
            self.stands_right(told, other, i, j)
            self.assertEqual(look_of(exchanged(other, i, j)), look_of(told))
            told = other
        return told

    def stands_right(self, one, other, i, j):
        self.assertEqual((other[0][i], other[1][j]), (one[1][j], one[0][i]))
        self.assertEqual(other[0][:i] + other[0][i + 1:], one[0][:i] + one[0][i + 1:])
        self.assertEqual(other[1][:j] + other[1][j + 1:], one[1][:j] + one[1][j + 1:])

    def test_values_that_fit_the_one_fit_the_other(self):
        for chance in chances(40):
            n, m = chance.randint(1, 5), chance.randint(1, 5)
            rows = [[small_number(chance, -3, 3) for j in range(n)] for i in range(m)]
            first = grid(rows, [small_number(chance, -3, 3) for i in range(m)], n)
            last = self.go(chance, first, 12)
            for again in range(3):
                known = filled(first, [fractions.Fraction(chance.randint(-9, 9), 4) for j in range(n)])
                self.assertTrue(fits(last, known))
                wrong = dict(known)
                wrong[last[0][0]] += 1
                self.assertFalse(fits(last, wrong))
                back = filled(last, [fractions.Fraction(chance.randint(-9, 9), 4) for j in range(n)])
                self.assertTrue(fits(first, back))

    def test_many_figures(self):
        chance = chances(1)[0]
        rows = [[long_number(chance) for j in range(4)] for i in range(4)]
        first = grid(rows, [long_number(chance) for i in range(4)], 4)
        last = self.go(chance, first, 6)
        known = filled(first, [fractions.Fraction(j, 7) for j in range(4)])
        self.assertTrue(fits(last, known))


if __name__ == "__main__":
    unittest.main()
