"""Plans: dicts from names of ways to the amounts that are put into them."""

from gainstream.errors import NoWay, OverBound, Short
from gainstream.fractions import Fraction, total


def amount(plan, name):
    return plan.get(name, Fraction(0))


def without_noughts(plan):
    kept = {}
    for name, part in plan.items():
        if part.sign() != 0:
            kept[name] = part
    return kept


def refuse_other_names(net, plan):
    for name in plan:
        net.way(name)


# Names that are no ways of the net are passed over here.
def sums_of_own_ways(net, plan):
    result = {}
    for place in net.names():
        result[place] = Fraction(0)
    for way in net.all_ways():
        part = amount(plan, way.name)
        result[way.start] = result[way.start].minus(part)
        result[way.goal] = result[way.goal].plus(way.out(part))
    return result


def sums(net, plan):
    refuse_other_names(net, plan)
    return sums_of_own_ways(net, plan)


def worth(net, plan):
    return total([net.way(name).cost.times(part) for name, part in plan.items()])


# None where the amount lies within the way's bounds.
def bound_passed(way, part):
    if part.sign() < 0:
        return Fraction(0)
    if way.high is not None and way.high.under(part):
        return way.high
    return None


def other_names(net, plan):
    own = {}
    for way in net.all_ways():
        own[way.name] = True
    return [name for name in plan if name not in own]


def faults(net, plan):
    found = [("way", name) for name in other_names(net, plan)]
    for way in net.all_ways():
        if bound_passed(way, amount(plan, way.name)) is not None:
            found.append(("bound", way.name))
    come = sums_of_own_ways(net, plan)
    for place in net.names():
        if come[place].under(net.want(place)):
            found.append(("place", place))
    return found


def refuse(net, plan, fault):
    word = fault[0]
    name = fault[1]
    if word == "way":
        raise NoWay(name)
    if word == "bound":
        raise OverBound(name, bound_passed(net.way(name), amount(plan, name)))
    raise Short(name, net.want(name).minus(sums(net, plan)[name]))


def checked(net, plan):
    found = faults(net, plan)
    if found != []:
        refuse(net, plan, found[0])
    return worth(net, plan)


def together(one, other):
    added = dict(one)
    for name, part in other.items():
        added[name] = amount(added, name).plus(part)
    return without_noughts(added)


def scaled(plan, number):
    result = {}
    for name, part in plan.items():
        result[name] = part.times(number)
    return without_noughts(result)
