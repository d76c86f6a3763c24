"""Lookers: whether an answer shows what it says."""

from gainstream.fractions import Fraction, total
from gainstream.plans import amount, faults, sums, worth
from gainstream.strands import is_strand, strand_plan


def are_fit(numbers, names):
    for name, number in numbers.items():
        if name not in names or number.sign() < 0:
            return False
    return True


def is_paper(net, prices, bounds):
    highs = [way.name for way in net.all_ways() if way.high is not None]
    return are_fit(prices, net.names()) and are_fit(bounds, highs)


# What one unit put into the way earns by the places' prices, less its bound's.
def earned(way, prices, bounds):
    less = amount(prices, way.start).plus(amount(bounds, way.name))
    return way.out(amount(prices, way.goal)).minus(less)


def earns_nothing(net, prices, bounds):
    for way in net.all_ways():
        if earned(way, prices, bounds).sign() > 0:
            return False
    return True


def earns_no_more_than_costs(net, prices, bounds):
    for way in net.all_ways():
        if way.cost.under(earned(way, prices, bounds)):
            return False
    return True


# The wants times the prices, less the highs times the bounds' prices.
def weight(net, prices, bounds):
    wanted = [net.want(place).times(price) for place, price in prices.items()]
    bounded = [net.way(name).high.times(price) for name, price in bounds.items()]
    return total(wanted).minus(total(bounded))


def shows_plan(net, plan, prices, bounds):
    if faults(net, plan) != [] or not is_paper(net, prices, bounds):
        return False
    if not earns_no_more_than_costs(net, prices, bounds):
        return False
    return worth(net, plan).same(weight(net, prices, bounds))


def shows_lack(net, weights, bounds):
    if not is_paper(net, weights, bounds) or not earns_nothing(net, weights, bounds):
        return False
    return weight(net, weights, bounds).sign() > 0


def goes_unbounded(net, strand):
    for name in strand[0] + strand[1] + strand[2]:
        if net.way(name).high is not None:
            return False
    return True


# A plan that meets the net, and beside it a strand that can be added in any
# amount.
def shows_more(net, plan, strand):
    if faults(net, plan) != [] or not is_strand(net, strand):
        return False
    return strand[0] != [] and goes_unbounded(net, strand)


def shows_greatest(net, place, answer):
    plan = answer[2]
    prices = answer[3]
    bounds = answer[4]
    if faults(net, plan) != [] or not is_paper(net, prices, bounds):
        return False
    counted = dict(prices)
    counted[place] = amount(prices, place).plus(Fraction(1))
    if not earns_nothing(net, counted, bounds):
        return False
    if not sums(net, plan)[place].same(answer[1]):
        return False
    return weight(net, prices, bounds).plus(answer[1]).sign() == 0


def shows(net, answer):
    if answer[0] == "plan":
        return shows_plan(net, answer[1], answer[2], answer[3])
    if answer[0] == "lack":
        return shows_lack(net, answer[1], answer[2])
    if not shows_more(net, answer[1], answer[2]):
        return False
    return worth(net, strand_plan(net, answer[2])).sign() < 0


def shows_most(net, place, answer):
    net.want(place)
    if answer[0] == "most":
        return shows_greatest(net, place, answer)
    if answer[0] == "lack":
        return shows_lack(net, answer[1], answer[2])
    if not shows_more(net, answer[1], answer[2]):
        return False
    return sums(net, strand_plan(net, answer[2]))[place].sign() > 0
