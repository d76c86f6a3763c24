"""The desk: rows of text that tell a net and a plan, and ask about them."""

from gainstream.cheapest import cheapest
from gainstream.errors import NoPlace, NoRow, NoText, NoWay, TooMany
from gainstream.most import most
from gainstream.nets import MOST_PLACES, MOST_WAYS, Net
from gainstream.plans import amount, faults, sums, without_noughts, worth
from gainstream.texts import is_name, read_fraction
from gainstream.ways import Growing

# The words behind the first one of a row.
FORMS = {
    "place": ("name", "fraction"),
    "way": ("name", "name", "name", "gain", "high", "fraction"),
    "drop": ("name",),
    "send": ("name", "fraction"),
    "cheapest": (),
    "most": ("name",),
    "look": (),
    "amount": ("name",),
    "sum": ("name",),
    "cost": (),
    "price": ("name",),
    "bound": ("name",),
}


def read_number(word):
    try:
        return read_fraction(word)
    except NoText:
        raise NoRow("a word of the row is no fraction") from None


def read_name(word):
    if not is_name(word):
        raise NoRow("a word of the row is no name")
    return word


def read_gain(word):
    gain = read_number(word)
    if gain.sign() <= 0:
        raise NoRow("the gain is not above nought")
    return gain


def read_high(word):
    if word == "-":
        return None
    high = read_number(word)
    if high.sign() < 0:
        raise NoRow("the high is under nought")
    return high


def read_word(kind, word):
    if kind == "name":
        return read_name(word)
    if kind == "gain":
        return read_gain(word)
    if kind == "high":
        return read_high(word)
    return read_number(word)


def read_row(row):
    words = row.split(" ")
    form = FORMS.get(words[0])
    if form is None or len(words) != len(form) + 1:
        raise NoRow("the row has none of the forms")
    read = [words[0]] + [read_word(kind, word) for kind, word in zip(form, words[1:])]
    if words[0] == "way" and read[2] == read[3]:
        raise NoRow("the start and the goal are the same")
    return read


class Desk:
    def __init__(self):
        self.wants = {}
        self.ways = {}
        self.amounts = {}
        self.prices = None
        self.bounds = None

    def net(self):
        return Net(list(self.wants.items()), list(self.ways.values()))

    def plan(self):
        return dict(self.amounts)

    def say(self, row):
        words = read_row(row)
        self.refuse_missing(words)
        self.refuse_too_many(words)
        if words[0] in ("place", "way", "drop", "send"):
            self.change(words)
            return "ok"
        if words[0] == "cheapest":
            return self.told_cheapest()
        if words[0] == "most":
            return self.told_most(words[1])
        return self.told(words)

    def refuse_missing(self, words):
        if words[0] == "way":
            self.refuse_place(words[2])
            self.refuse_place(words[3])
        if words[0] in ("sum", "price", "most"):
            self.refuse_place(words[1])
        if words[0] in ("drop", "send", "amount", "bound") and words[1] not in self.ways:
            raise NoWay(words[1])

    def refuse_place(self, place):
        if place not in self.wants:
            raise NoPlace(place)

    def refuse_too_many(self, words):
        if words[0] == "place" and words[1] not in self.wants and len(self.wants) == MOST_PLACES:
            raise TooMany("one more place is too many")
        if words[0] == "way" and words[1] not in self.ways and len(self.ways) == MOST_WAYS:
            raise TooMany("one more way is too many")

    def change(self, words):
        name = words[1]
        if words[0] == "send":
            self.amounts[name] = words[2]
            self.amounts = without_noughts(self.amounts)
            return
        if words[0] == "place":
            self.wants[name] = words[2]
        if words[0] == "way":
            self.ways[name] = Growing(name, words[2], words[3], words[4], words[5], words[6])
        if words[0] == "drop":
            self.ways.pop(name)
            self.amounts.pop(name, None)
        self.forget_prices()

    def forget_prices(self):
        self.prices = None
        self.bounds = None

    def keep(self, plan, prices, bounds):
        self.amounts = plan
        self.prices = prices
        self.bounds = bounds

    def told_cheapest(self):
        answer = cheapest(self.net())
        if answer[0] != "plan":
            self.forget_prices()
            return answer[0]
        self.keep(answer[1], answer[2], answer[3])
        return "plan " + worth(self.net(), answer[1]).shown()

    def told_most(self, place):
        answer = most(self.net(), place)
        if answer[0] != "most":
            self.forget_prices()
            return answer[0]
        self.keep(answer[2], answer[3], answer[4])
        return "most " + answer[1].shown()

    def told(self, words):
        if words[0] == "look":
            return self.told_faults()
        if words[0] == "cost":
            return worth(self.net(), self.amounts).shown()
        if words[0] == "amount":
            return amount(self.amounts, words[1]).shown()
        if words[0] == "sum":
            return sums(self.net(), self.amounts)[words[1]].shown()
        if self.prices is None:
            return "none"
        if words[0] == "price":
            return self.prices[words[1]].shown()
        return amount(self.bounds, words[1]).shown()

    def told_faults(self):
        found = faults(self.net(), self.amounts)
        if found == []:
            return "ok"
        return ", ".join([word + " " + name for word, name in found])
