"""The four kinds of ways."""

from gainstream.errors import NoWay
from gainstream.fractions import Fraction


def name_at(name, turn):
    return name + "." + str(turn)


class Way:
    def __init__(self, name, start, goal, high=None, cost=None):
        if start == goal and not self.may_stay():
            raise NoWay(name)
        if high is not None and high.sign() < 0:
            raise NoWay(name)
        self.name = name
        self.start = start
        self.goal = goal
        self.high = high
        self.cost = Fraction(0) if cost is None else cost

    def may_stay(self):
        return False

    def gain(self):
        return Fraction(1)

    def out(self, amount):
        return amount.times(self.gain())

    def at_turn(self, turn):
        start = name_at(self.start, turn)
        goal = name_at(self.goal, turn)
        return Way(name_at(self.name, turn), start, goal, self.high, self.cost)


class Growing(Way):
    def __init__(self, name, start, goal, rate, high=None, cost=None):
        if rate.sign() <= 0:
            raise NoWay(name)
        Way.__init__(self, name, start, goal, high, cost)
        self.rate = rate

    def gain(self):
        return self.rate

    def at_turn(self, turn):
        start = name_at(self.start, turn)
        goal = name_at(self.goal, turn)
        return Growing(name_at(self.name, turn), start, goal, self.rate, self.high, self.cost)


class Leaking(Way):
    def __init__(self, name, start, goal, loss, high=None, cost=None):
        if loss.sign() < 0 or not loss.under(Fraction(1)):
            raise NoWay(name)
        Way.__init__(self, name, start, goal, high, cost)
        self.loss = loss

    def gain(self):
        return Fraction(1).minus(self.loss)

    def at_turn(self, turn):
        start = name_at(self.start, turn)
        goal = name_at(self.goal, turn)
        return Leaking(name_at(self.name, turn), start, goal, self.loss, self.high, self.cost)


class Store(Leaking):
    def __init__(self, name, place, loss, high=None, cost=None):
        Leaking.__init__(self, name, place, place, loss, high, cost)

    def may_stay(self):
        return True

    # What is stored comes out at the same place one turn later, so between
    # turns it is a way between two places, and a store no more.
    def at_turn(self, turn):
        start = name_at(self.start, turn)
        goal = name_at(self.goal, turn + 1)
        return Leaking(name_at(self.name, turn), start, goal, self.loss, self.high, self.cost)
