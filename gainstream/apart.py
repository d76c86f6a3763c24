"""Plans taken apart into strands, and strands put together into a plan.

First the rings are taken out of the plan. One that gives back just what it
takes is a strand by itself; of one that makes or eats it is kept how much it
brings to one of its places, or takes from there. What is left has no rings:
it leads from where goods are taken from or made to where they go to or are
eaten, along roads. Each ring and each road uses up a way, or what was to be
brought or taken at an end, and that is why there are not too many of them.
"""

from gainstream.errors import OverBound
from gainstream.fractions import Fraction
from gainstream.plans import scaled, sums, together, without_noughts
from gainstream.rings import ring_along
from gainstream.strands import strand_plan
from gainstream.walks import gain_of, sent


# Where roads begin or end: a place, the ring there or [], and how much is
# still to be brought or taken.
class End:
    def __init__(self, place, ring, rest):
        self.place = place
        self.ring = ring
        self.rest = rest


def refuse_unfit(net, plan):
    for name, part in plan.items():
        net.way(name)
        if part.sign() < 0:
            raise OverBound(name, Fraction(0))


def least(numbers):
    found = numbers[0]
    for number in numbers:
        if number.under(found):
            found = number
    return found


def by_start(ways):
    found = {}
    for way in ways:
        found[way.start] = way
    return found


# Ways that lead nowhere on are left out until there are none: from each one
# that stays it goes on without end, so into a ring.
def ring_in(net, plan):
    ways = [net.way(name) for name in plan]
    onward = by_start(ways)
    kept = [way for way in ways if way.goal in onward]
    while len(kept) < len(ways):
        ways = kept
        onward = by_start(ways)
        kept = [way for way in ways if way.goal in onward]
    if ways == []:
        return []
    return ring_along(onward, ways[0].start)


def most_along(plan, unit):
    return least([plan[name].over(part) for name, part in unit.items()])


def less(plan, unit, amount):
    return together(plan, scaled(unit, Fraction(0).minus(amount)))


class Taking:
    def __init__(self, net, plan):
        self.on = net
        self.rest = without_noughts(plan)
        self.strands = []
        self.sources = []
        self.sinks = []
        for place, come in sums(net, plan).items():
            self.add_end(place, [], come)

    # What is under nought must be brought by somebody, what is above it taken.
    def add_end(self, place, ring, come):
        if come.sign() < 0:
            self.sources.append(End(place, ring, Fraction(0).minus(come)))
        if come.sign() > 0:
            self.sinks.append(End(place, ring, come))

    def take_ring(self, ring):
        unit = sent(self.on, ring, Fraction(1))
        amount = most_along(self.rest, unit)
        self.rest = less(self.rest, unit, amount)
        eaten = Fraction(1).minus(gain_of(self.on, ring)).times(amount)
        if eaten.sign() == 0:
            self.strands.append((ring, [], [], amount))
        self.add_end(self.on.way(ring[0]).start, ring, eaten)

    def sink_at(self, place):
        for end in self.sinks:
            if end.place == place and end.rest.sign() > 0:
                return end
        return None

    def take_road(self, source):
        onward = by_start([self.on.way(name) for name in self.rest])
        path = []
        place = source.place
        while self.sink_at(place) is None:
            path.append(onward[place].name)
            place = onward[place].goal
        self.take_path(source, path, self.sink_at(place))

    def take_path(self, source, path, sink):
        unit = sent(self.on, path, Fraction(1))
        gain = gain_of(self.on, path)
        amount = least([source.rest, sink.rest.over(gain)])
        if path != []:
            amount = least([amount, most_along(self.rest, unit)])
        self.rest = less(self.rest, unit, amount)
        source.rest = source.rest.minus(amount)
        sink.rest = sink.rest.minus(amount.times(gain))
        self.strands.append((list(source.ring), path, list(sink.ring), amount))


def taken_apart(net, plan):
    refuse_unfit(net, plan)
    taking = Taking(net, plan)
    ring = ring_in(net, taking.rest)
    while ring != []:
        taking.take_ring(ring)
        ring = ring_in(net, taking.rest)
    for source in taking.sources:
        while source.rest.sign() > 0:
            taking.take_road(source)
    return taking.strands


def put_together(net, strands):
    plan = {}
    for strand in strands:
        plan = together(plan, strand_plan(net, strand))
    return plan
