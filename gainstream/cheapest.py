"""The cheapest plan that meets a net."""

from gainstream.apart import taken_apart
from gainstream.fractions import Fraction
from gainstream.greatest import greatest
from gainstream.plans import without_noughts, worth
from gainstream.strands import strand_plan


# What one unit in the way asks of the place.
def asked_by(way, place):
    if way.start == place:
        return Fraction(1)
    if way.goal == place:
        return Fraction(0).minus(way.gain())
    return Fraction(0)


def rows_of(net):
    rows = []
    bounds = []
    for place in net.names():
        rows.append([asked_by(way, place) for way in net.all_ways()])
        bounds.append(Fraction(0).minus(net.want(place)))
    for bounded in ways_with_high(net):
        rows.append([Fraction(1 if way.name == bounded.name else 0) for way in net.all_ways()])
        bounds.append(bounded.high)
    gains = [Fraction(0).minus(way.cost) for way in net.all_ways()]
    return (rows, bounds, gains)


def ways_with_high(net):
    return [way for way in net.all_ways() if way.high is not None]


def as_plan(net, values):
    names = [way.name for way in net.all_ways()]
    return without_noughts(dict(zip(names, values)))


# The numbers for the net's rows: by places, and by ways with a high.
def by_places(net, numbers):
    return dict(zip(net.names(), numbers))


def by_highs(net, numbers):
    names = [way.name for way in ways_with_high(net)]
    return dict(zip(names, numbers[len(net.names()):]))


def lack(net, weights):
    return ("lack", by_places(net, weights), by_highs(net, weights))


# What can be added without end takes from no place and goes by no way with a
# high, so each of its strands has a head; what it brings or costs as a whole,
# one of them brings or costs.
def endless(net, values, more, is_wanted):
    for strand in taken_apart(net, as_plan(net, more)):
        if is_wanted(strand_plan(net, strand)):
            return ("endless", as_plan(net, values), strand)
    return None


def cheapest(net):
    rows = rows_of(net)
    found = greatest(rows[0], rows[1], rows[2])
    if found[0] == "none":
        return lack(net, found[1])
    if found[0] == "endless":
        return endless(net, found[1], found[2], lambda plan: worth(net, plan).sign() < 0)
    return ("plan", as_plan(net, found[2]), by_places(net, found[3]), by_highs(net, found[3]))
