"""The greatest sum of gains that fits rows and bounds, gone by exchanges."""

from gainstream.fractions import Fraction
from gainstream.wholes import WholeGrid, Wholes


# Of the tops that would better the row's sum the place of one, or None. The
# one with the greatest number in the row mostly takes fewer exchanges; but
# while the sum stands still that may go round without end, and the one whose
# unknown has the least number doesn't.
def coming(tops, row, stands_still):
    found = None
    for j, unknown in enumerate(tops):
        if row[j + 1] > 0:
            if found is None or is_preferred(row[j + 1], unknown, row[found + 1], tops[found], stands_still):
                found = j
    return found


def is_preferred(number, unknown, other_number, other, stands_still):
    if stands_still:
        return unknown < other
    return number > other_number


# Of the lefts that come to nought first, as the top at place j grows, the
# place of the one with the least number; None where none ever does.
def going(grid, j):
    found = None
    for i, unknown in enumerate(grid.lefts):
        row = grid.table[i]
        if row[j + 1] < 0:
            if found is None or is_ahead(row, unknown, grid.table[found], grid.lefts[found], j + 1):
                found = i
    return found


def is_ahead(row, unknown, other_row, other, column):
    one = row[0] * other_row[column]
    two = other_row[0] * row[column]
    return one > two or (one == two and unknown < other)


def worst_row(grid):
    found = 0
    for i in range(len(grid.lefts)):
        if grid.table[i][0] < grid.table[found][0]:
            found = i
    return found


# With enough of one more unknown in each row the values fit. None where it is
# brought down to nought again, else the place of its row, which says that it
# can't be. Its number is the least, so that of all that come to nought first
# it is the one that goes out.
def make_fitting(grid):
    worst = worst_row(grid)
    if grid.lefts == [] or grid.table[worst][0] >= 0:
        return None
    added = -1
    grid.add_top(added)
    grid.exchange(worst, len(grid.tops) - 1)
    stands_still = False
    while added in grid.lefts:
        place = grid.lefts.index(added)
        j = coming(grid.tops, [-number for number in grid.table[place]], stands_still)
        if j is None:
            return place
        i = going(grid, j)
        stands_still = grid.table[i][0] == 0
        grid.exchange(i, j)
    grid.drop_top(added)
    return None


# None, or the place of a top that may grow without end.
def make_greatest(grid):
    stands_still = False
    j = coming(grid.tops, grid.sum_row(), stands_still)
    while j is not None:
        i = going(grid, j)
        if i is None:
            return j
        stands_still = grid.table[i][0] == 0
        grid.exchange(i, j)
        j = coming(grid.tops, grid.sum_row(), stands_still)
    return None


def by_unknown(unknowns, numbers):
    return dict(zip(unknowns, numbers))


def values_of(grid, wholes):
    found = by_unknown(grid.lefts, [row[0] for row in grid.table])
    bottom = grid.bottom * wholes.bounds_bottom
    return [Fraction(found.get(j, 0) * by, bottom) for j, by in enumerate(wholes.columns)]


# How much each slack weighs in a row of the table, told for the rows as they
# were handed in.
def weights_of(grid, wholes, row, bottom):
    found = by_unknown(grid.tops, row[1:])
    n = len(wholes.gains)
    return [Fraction(found.get(n + i, 0), bottom * share) for i, share in enumerate(wholes.shares)]


def growing_of(grid, wholes, j):
    found = by_unknown(grid.lefts, [row[j + 1] for row in grid.table])
    found[grid.tops[j]] = grid.bottom
    return [Fraction(found.get(k, 0) * by, grid.bottom) for k, by in enumerate(wholes.columns)]


def best(grid, wholes):
    values = values_of(grid, wholes)
    bottom = -grid.bottom * wholes.gains_bottom
    prices = weights_of(grid, wholes, grid.sum_row(), bottom)
    worth = Fraction(grid.sum_row()[0], grid.bottom * wholes.bounds_bottom * wholes.gains_bottom)
    return ("best", worth, values, prices)


def greatest(rows, bounds, gains):
    wholes = Wholes(rows, bounds, gains)
    grid = WholeGrid(wholes)
    lacking = make_fitting(grid)
    if lacking is not None:
        return ("none", weights_of(grid, wholes, grid.table[lacking], grid.bottom))
    j = make_greatest(grid)
    if j is not None:
        return ("endless", values_of(grid, wholes), growing_of(grid, wholes, j))
    return best(grid, wholes)
