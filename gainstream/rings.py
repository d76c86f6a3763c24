"""Rings of ways that make more than they take, or that eat."""

from gainstream.fractions import Fraction


def is_more(one, other):
    return other.under(one)


def is_less(one, other):
    return one.under(other)


# One step of the search: each place's value becomes the best that one way
# and the values of the step ahead bring. All are held against the values of
# the step ahead, never against each other: so, where places point at one
# another in a ring, the ring's gain can't be just 1.
def bettered(ways, values, pointers, better):
    fresh = dict(values)
    moved = dict(pointers)
    for way in ways:
        value = way.gain().times(values[way.goal])
        if better(value, fresh[way.start]):
            fresh[way.start] = value
            moved[way.start] = way
    return fresh, moved


def ring_along(pointers, place):
    seen = {}
    while place not in seen:
        seen[place] = len(seen)
        place = pointers[place].goal
    ring = list(seen)[seen[place]:]
    return [pointers[one].name for one in ring]


def place_bettered(values, fresh):
    for place in values:
        if not values[place].same(fresh[place]):
            return place
    return None


def ones(net):
    values = {}
    for place in net.names():
        values[place] = Fraction(1)
    return values


# Without such a ring the best walk out of a place comes to no place twice,
# so nothing is bettered in as many steps as there are places; with one it
# goes on, and what is bettered in the last of them points into a ring.
def ring_or_weights(net, names, better):
    ways = [net.way(name) for name in names]
    values = ones(net)
    pointers = {}
    for left in reversed(range(len(values))):
        step = bettered(ways, values, pointers, better)
        place = place_bettered(values, step[0])
        if place is None:
            return ("weights", values)
        values = step[0]
        pointers = step[1]
        if left == 0:
            return ("ring", ring_along(pointers, place))
    return ("weights", values)


def making(net, names):
    return ring_or_weights(net, names, is_more)


def eating(net, names):
    return ring_or_weights(net, names, is_less)
