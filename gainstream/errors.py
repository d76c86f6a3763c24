"""The refusals: each stands straight under GainError.

Their words hold names but never numbers: a number may have more figures than
Python writes as a text, and the refusal must come all the same.
"""


class GainError(ValueError):
    pass


class NoNumber(GainError):
    pass


class TooMany(GainError):
    pass


class NoRing(GainError):
    pass


class NoStrand(GainError):
    pass


class NoExchange(GainError):
    pass


class NoText(GainError):
    pass


class NoRow(GainError):
    pass


class NoWay(GainError):
    def __init__(self, name):
        GainError.__init__(self, f"no such way can be: {name}")
        self.name = name


class Broken(GainError):
    def __init__(self, name):
        GainError.__init__(self, f"the way does not start where the one ahead ends: {name}")
        self.name = name


class Twice(GainError):
    def __init__(self, name):
        GainError.__init__(self, f"the name is there already: {name}")
        self.name = name


class NoPlace(GainError):
    def __init__(self, place):
        GainError.__init__(self, f"no such place: {place}")
        self.place = place


class OverBound(GainError):
    def __init__(self, name, bound):
        GainError.__init__(self, f"the amount passes a bound of the way: {name}")
        self.name = name
        self.bound = bound


class Short(GainError):
    def __init__(self, place, lacking):
        GainError.__init__(self, f"less than its want comes to the place: {place}")
        self.place = place
        self.lacking = lacking
