"""Grids: some unknowns told by the others."""

from gainstream.errors import NoExchange
from gainstream.fractions import Fraction


def with_other_sign(number):
    return Fraction(0).minus(number)


def grid(rows, bounds, n):
    lefts = list(range(n, n + len(rows)))
    tops = list(range(n))
    table = []
    for row, bound in zip(rows, bounds):
        table.append([bound] + [with_other_sign(number) for number in row])
    return (lefts, tops, table)


# The row of the left that goes, told for the top that comes: what stood for
# the top stands for the left now.
def row_solved(row, column):
    by = row[column]
    solved = [with_other_sign(number.over(by)) for number in row]
    solved[column] = Fraction(1).over(by)
    return solved


def row_replaced(row, column, solved):
    by = row[column]
    replaced = [number.plus(by.times(other)) for number, other in zip(row, solved)]
    replaced[column] = by.times(solved[column])
    return replaced


def exchanged_table(table, i, column):
    solved = row_solved(table[i], column)
    fresh = [row_replaced(row, column, solved) for row in table]
    fresh[i] = solved
    return fresh


def exchanged(grid, i, j):
    lefts = list(grid[0])
    tops = list(grid[1])
    table = grid[2]
    if table[i][j + 1].sign() == 0:
        raise NoExchange("the number for these two is nought")
    lefts[i] = grid[1][j]
    tops[j] = grid[0][i]
    return (lefts, tops, exchanged_table(table, i, j + 1))
