"""Texts of fractions, and the names of the desk."""

from gainstream.errors import NoText
from gainstream.fractions import Fraction

FIGURES = "0123456789"
MOST_FIGURES = 9
LETTERS = "abcdefghijklmnopqrstuvwxyz"
MOST_LETTERS = 8


def is_made_of(text, signs, most):
    return 1 <= len(text) <= most and all([sign in signs for sign in text])


def read_whole(text):
    if not is_made_of(text, FIGURES, MOST_FIGURES):
        raise NoText("one to nine figures are asked for")
    return int(text)


# Whatever isn't written as the fraction itself is shown, with noughts ahead,
# not in lowest terms or otherwise, is none.
def read_fraction(text):
    parts = text.partition("/")
    below = parts[0].startswith("-")
    top = read_whole(parts[0][1:] if below else parts[0])
    bottom = read_whole(parts[2]) if parts[1] == "/" else 1
    if bottom == 0:
        raise NoText("a bottom of nought")
    number = Fraction(-top if below else top, bottom)
    if number.shown() != text:
        raise NoText("the fraction is not shown so")
    return number


def is_name(text):
    return is_made_of(text, LETTERS, MOST_LETTERS)
