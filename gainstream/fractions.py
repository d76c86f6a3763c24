"""Fractions of whole numbers, always in lowest terms."""

from gainstream.errors import NoNumber


def divisor(one, other):
    one = abs(one)
    other = abs(other)
    while other != 0:
        rest = one % other
        one = other
        other = rest
    return one


class Fraction:
    def __init__(self, top, bottom=1):
        if bottom == 0:
            raise NoNumber("a fraction has no bottom of nought")
        common = divisor(top, bottom)
        if bottom < 0:
            common = -common
        self.top = top // common
        self.bottom = bottom // common

    # What two bottoms have in common is all that can still cancel in a sum,
    # so a long number beside a short one never asks for a long search.
    def plus(self, other):
        common = divisor(self.bottom, other.bottom)
        own = self.bottom // common
        top = self.top * (other.bottom // common) + other.top * own
        left = divisor(top, common)
        return in_lowest_terms(top // left, own * (other.bottom // left))

    def minus(self, other):
        return self.plus(in_lowest_terms(-other.top, other.bottom))

    # Each top is cleared of the other's bottom ahead of the product: nothing
    # is left to cancel behind it.
    def times(self, other):
        first = divisor(self.top, other.bottom)
        second = divisor(other.top, self.bottom)
        top = (self.top // first) * (other.top // second)
        return in_lowest_terms(top, (self.bottom // second) * (other.bottom // first))

    def over(self, other):
        if other.top == 0:
            raise NoNumber("nothing is divided by nought")
        if other.top < 0:
            return self.times(in_lowest_terms(-other.bottom, -other.top))
        return self.times(in_lowest_terms(other.bottom, other.top))

    def under(self, other):
        return self.top * other.bottom < other.top * self.bottom

    def same(self, other):
        return self.top == other.top and self.bottom == other.bottom

    def sign(self):
        if self.top > 0:
            return 1
        if self.top < 0:
            return -1
        return 0

    def shown(self):
        if self.bottom == 1:
            return str(self.top)
        return str(self.top) + "/" + str(self.bottom)


# To make a Fraction is to search for a divisor; where none above 1 is left,
# that search would be most of the work of a sum of long numbers. The fields
# are given ahead of handing it on: nobody ever sees another value in it.
def in_lowest_terms(top, bottom):
    made = Fraction(0)
    made.top = top
    made.bottom = bottom
    return made


# The sum is cleared once, at the end: only what two bottoms have in common
# can cancel, and all of that is in shared.
def total(some):
    top = 0
    bottom = 1
    shared = 1
    for number in some:
        common = divisor(bottom, number.bottom)
        own = number.bottom // common
        top = top * own + number.top * (bottom // common)
        bottom = bottom * own
        shared = shared * (common // divisor(shared, common))
    left = divisor(top, shared)
    return in_lowest_terms(top // left, bottom // left)
