"""The most that comes to a place."""

from gainstream.cheapest import as_plan, by_highs, by_places, endless, lack, rows_of
from gainstream.fractions import Fraction
from gainstream.greatest import greatest
from gainstream.plans import sums


def most(net, place):
    net.want(place)
    rows = rows_of(net)
    asked = rows[0][net.names().index(place)]
    found = greatest(rows[0], rows[1], [Fraction(0).minus(number) for number in asked])
    if found[0] == "none":
        return lack(net, found[1])
    if found[0] == "endless":
        return endless(net, found[1], found[2], lambda plan: sums(net, plan)[place].sign() > 0)
    return ("most", found[1], as_plan(net, found[2]), by_places(net, found[3]), by_highs(net, found[3]))
