"""Rows, bounds and gains as whole numbers, and grids of whole numbers over one bottom.

In a grid that comes by exchanges from one of whole numbers every number is
some determinant over one and the same determinant. So their tops alone are
kept, with the one bottom, and no divisor is looked for on the way: each
division below leaves no rest.
"""

from gainstream.fractions import Fraction, divisor


def multiple(numbers):
    found = 1
    for number in numbers:
        found = found * (number // divisor(found, number))
    return found


def common_part(numbers):
    found = 0
    for number in numbers:
        found = divisor(found, number)
    return found


def as_wholes(numbers, by):
    return [number.top * (by // number.bottom) for number in numbers]


# Whole unknowns stand for the unknowns: unknown j is columns[j] times the
# whole one over bounds_bottom. Row i is shares[i] times its whole row.
class Wholes:
    def __init__(self, rows, bounds, gains):
        self.columns = [multiple([row[j].bottom for row in rows]) for j in range(len(gains))]
        large = [self.large_row(row) for row in rows]
        self.shares = [max(1, common_part(row)) for row in large]
        self.rows = [[number // share for number in row] for row, share in zip(large, self.shares)]
        small_bounds = [bound.over(Fraction(share)) for bound, share in zip(bounds, self.shares)]
        self.bounds_bottom = multiple([bound.bottom for bound in small_bounds])
        self.bounds = as_wholes(small_bounds, self.bounds_bottom)
        large_gains = [gain.times(Fraction(by)) for gain, by in zip(gains, self.columns)]
        self.gains_bottom = multiple([gain.bottom for gain in large_gains])
        self.gains = as_wholes(large_gains, self.gains_bottom)

    def large_row(self, row):
        return [number.top * (by // number.bottom) for number, by in zip(row, self.columns)]


# The sum that is to be greatest is a row of the table too, the last one; it
# stands for no unknown.
class WholeGrid:
    def __init__(self, wholes):
        n = len(wholes.gains)
        self.lefts = list(range(n, n + len(wholes.bounds)))
        self.tops = list(range(n))
        self.bottom = 1
        self.table = []
        for row, bound in zip(wholes.rows, wholes.bounds):
            self.table.append([bound] + [-number for number in row])
        self.table.append([0] + wholes.gains)

    def sum_row(self):
        return self.table[-1]

    # One more unknown, of which each left has its one share.
    def add_top(self, unknown):
        self.tops.append(unknown)
        sum_row = self.table[-1] + [0]
        self.table = [row + [1] for row in self.table[:-1]] + [sum_row]

    def drop_top(self, unknown):
        j = self.tops.index(unknown)
        self.tops.pop(j)
        self.table = [row[:j + 1] + row[j + 2:] for row in self.table]

    def exchange(self, i, j):
        own = self.table[i]
        by = own[j + 1]
        sign = 1 if by > 0 else -1
        self.table = [self.replaced(row, own, j + 1, sign) for row in self.table]
        self.table[i] = [-sign * number for number in own]
        self.table[i][j + 1] = sign * self.bottom
        self.bottom = sign * by
        going = self.lefts[i]
        self.lefts[i] = self.tops[j]
        self.tops[j] = going

    def replaced(self, row, own, column, sign):
        by = sign * own[column]
        share = sign * row[column]
        fresh = [(number * by - share * other) // self.bottom for number, other in zip(row, own)]
        fresh[column] = share
        return fresh
