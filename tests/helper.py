"""What several files of tests share: short ways to write numbers, nets and plans.

What the program tells is looked at with Python's own fractions: the sums here
draw nothing from the program but the names and fields of its objects.
"""

import fractions
import random

from gainstream.fractions import Fraction
from gainstream.nets import Net
from gainstream.ways import Growing, Leaking, Way

LONG = Fraction(10 ** 59 + 7, 10 ** 59 + 9)


def num(text):
    number = fractions.Fraction(text)
    return Fraction(number.numerator, number.denominator)


def plain(number):
    assert type(number) is Fraction
    return fractions.Fraction(number.top, number.bottom)


def plains(numbers):
    if isinstance(numbers, dict):
        return {name: plain(number) for name, number in numbers.items()}
    return [plain(number) for number in numbers]


# "w 1/2, v -3" tells a plan, and any other dict of numbers.
def plan_of(text):
    return {name: num(number) for name, number in [row.split() for row in text.split(",") if row.strip()]}


def shown(numbers):
    if isinstance(numbers, dict):
        return {name: number.shown() for name, number in numbers.items()}
    return [number.shown() for number in numbers]


# "w a b 1/2 7 -3": name, start, goal, gain, high (- for none), cost; from the gain on each may be left out.
def way_of(row):
    words = row.split()
    gain, high, cost = (words[3:] + ["1", "-", "0"][len(words) - 3:])
    return Growing(words[0], words[1], words[2], num(gain), None if high == "-" else num(high), num(cost))


def ways_of(text):
    return [way_of(row) for row in text.split(",") if row.strip()]


# "a, b -3": a place without a want wants nought.
def places_of(text):
    rows = [row.split() for row in text.split(",") if row.strip()]
    return [(row[0], num(row[1]) if len(row) > 1 else Fraction(0)) for row in rows]


def net_of(places, ways=""):
    return Net(places_of(places), ways_of(ways))


def plain_gain(way):
    if isinstance(way, Growing):
        return plain(way.rate)
    if isinstance(way, Leaking):
        return 1 - plain(way.loss)
    assert type(way) is Way
    return fractions.Fraction(1)


def plain_wants(net):
    return {name: plain(net.want(name)) for name in net.names()}


def plain_sums(net, amounts):
    result = {place: fractions.Fraction(0) for place in net.names()}
    for name, amount in amounts.items():
        way = net.way(name)
        result[way.start] -= amount
        result[way.goal] += amount * plain_gain(way)
    return result


def plain_worth(net, amounts):
    return sum([amount * plain(net.way(name).cost) for name, amount in amounts.items()], fractions.Fraction(0))


# All that can be seen of a net from outside.
def look_of(net):
    ways = [(type(way), way.name, way.start, way.goal, way.high and way.high.shown(), way.cost.shown(),
             plain_gain(way)) for way in net.all_ways()]
    return ([(name, net.want(name).shown()) for name in net.names()], ways)


def long_number(chance, figures=60):
    least = 10 ** (figures - 1)
    return Fraction(chance.randrange(least, 10 * least), chance.randrange(least, 10 * least))


def small_number(chance, low, high):
    return Fraction(chance.randint(low, high), chance.choice([1, 1, 1, 2, 3]))


# A net by chance: gains are often ones whose products come to just 1.
def chance_net(chance, places, ways, highs=0.5, wants=(-4, 3), costs=(-1, 4)):
    names = ["p" + str(i) for i in range(places)]
    gains = ["1", "1", "2", "1/2", "3/2", "2/3", "3", "1/3"]
    made = []
    for i in range(ways if places > 1 else 0):
        start, goal = chance.sample(names, 2)
        high = small_number(chance, 0, 6) if chance.random() < highs else None
        made.append(Growing("w" + str(i), start, goal, num(chance.choice(gains)), high, small_number(chance, *costs)))
    return Net([(name, small_number(chance, *wants)) for name in names], made)


def long_net(chance, places=12, ways=24, highs=0.5, figures=60):
    names = ["p" + str(i) for i in range(places)]
    made = []
    for i in range(ways):
        start, goal = chance.sample(names, 2)
        high = long_number(chance, figures) if chance.random() < highs else None
        cost = long_number(chance, figures)
        made.append(Growing("w" + str(i), start, goal, long_number(chance, figures), high, cost))
    wants = [long_number(chance, figures).times(Fraction(chance.choice([-9, -3, 0, 0, 1]))) for name in names]
    return Net(list(zip(names, wants)), made)


def chances(seeds):
    return [random.Random(seed) for seed in range(seeds)]


# None where the names are no walk.
def plain_places(net, walk):
    ways = {way.name: way for way in net.all_ways()}
    if any(name not in ways for name in walk):
        return None
    if any(ways[one].goal != ways[two].start for one, two in zip(walk, walk[1:])):
        return None
    return [ways[name].start for name in walk[:1]] + [ways[name].goal for name in walk]


def plain_walk_gain(net, walk):
    gain = fractions.Fraction(1)
    for name in walk:
        gain *= plain_gain(net.way(name))
    return gain


def is_plain_ring(net, walk):
    places = plain_places(net, walk)
    return bool(places) and places[0] == places[-1] and len(set(places)) == len(walk)


# "round", "road", or None for what is no strand.
def strand_kind(net, strand):
    head, path, tail, amount = strand
    parts = [plain_places(net, walk) for walk in (head, path, tail)]
    if None in parts or plain(amount) <= 0 or not any(parts):
        return None
    if head and not is_plain_ring(net, head) or tail and not is_plain_ring(net, tail):
        return None
    if head and not path and not tail and plain_walk_gain(net, head) == 1:
        return "round"
    if head and plain_walk_gain(net, head) <= 1 or tail and plain_walk_gain(net, tail) >= 1:
        return None
    if len(set(parts[1])) < len(parts[1]):
        return None
    met = [places for places in parts if places]
    return "road" if all(one[-1] == two[0] for one, two in zip(met, met[1:])) else None


def send_plainly(net, walk, amount, plan):
    for name in walk:
        plan[name] = plan.get(name, 0) + amount
        amount *= plain_gain(net.way(name))
    return amount


def plain_strand_plan(net, strand):
    head, path, tail, amount = strand
    going = plain(amount)
    plan = {}
    if strand_kind(net, strand) == "round":
        send_plainly(net, head, going, plan)
        return plan
    if head:
        send_plainly(net, head, going / (plain_walk_gain(net, head) - 1), plan)
    going = send_plainly(net, path, going, plan)
    if tail:
        send_plainly(net, tail, going / (1 - plain_walk_gain(net, tail)), plan)
    return plan


# The places where a road begins and ends.
def ends_of(net, strand):
    places = [place for walk in strand[:3] for place in plain_places(net, walk)]
    return places[0], places[-1]


# All rings of the net's ways, each told from one of its places alone.
def all_rings(net, names):
    found = []
    waiting = [[name] for name in sorted(set(names))]
    while waiting:
        walk = waiting.pop()
        places = plain_places(net, walk)
        if places[0] == places[-1]:
            if places[0] == min(places):
                found.append(walk)
        elif len(set(places)) == len(places):
            onward = [name for name in sorted(set(names)) if net.way(name).start == places[-1]]
            waiting.extend([walk + [name] for name in onward])
    return [walk for walk in found if is_plain_ring(net, walk)]


# The plan meets the net, and names just the ways whose amount isn't nought.
def meets(net, plan):
    amounts = plains(plan)
    come = plain_sums(net, amounts)
    for name, amount in amounts.items():
        high = net.way(name).high
        assert amount > 0, "an amount that isn't above nought"
        assert high is None or amount <= plain(high), "an amount above its high"
    for place, want in plain_wants(net).items():
        assert come[place] >= want, "a want that isn't met"
    return come


def weighed(net, prices, bounds):
    highs = {way.name: plain(way.high) for way in net.all_ways() if way.high is not None}
    assert set(prices) == set(net.names()), "other places than the net's"
    assert set(bounds) == set(highs), "other ways than those with a high"
    assert min([0] + list(prices.values()) + list(bounds.values())) >= 0, "something under nought"
    wanted = sum([want * prices[place] for place, want in plain_wants(net).items()])
    return wanted - sum([high * bounds[name] for name, high in highs.items()])


# What the ways earn at most by the prices, beyond what is told for each.
def earns_no_more(net, prices, bounds, costs):
    for way in net.all_ways():
        earned = plain_gain(way) * prices[way.goal] - prices[way.start] - bounds.get(way.name, 0)
        assert earned <= costs[way.name], "a way earns too much"


def is_lack(net, answer):
    weights, bounds = plains(answer[1]), plains(answer[2])
    assert weighed(net, weights, bounds) > 0, "a lack that weighs nothing"
    earns_no_more(net, weights, bounds, {way.name: 0 for way in net.all_ways()})


def is_endless(net, answer):
    meets(net, answer[1])
    assert type(answer[2]) is tuple and strand_kind(net, answer[2]), "no strand"
    assert answer[2][0] != [], "no head"
    assert all(net.way(name).high is None for walk in answer[2][:3] for name in walk), "a way with a high"
    return plain_strand_plan(net, answer[2])


# Looks at the answer by all that is told of it, and tells its word and worth.
def looked_cheapest(net, answer):
    assert type(answer) is tuple
    if answer[0] == "lack":
        is_lack(net, answer)
        return "lack", None
    if answer[0] == "endless":
        assert plain_worth(net, is_endless(net, answer)) < 0, "a strand that costs something"
        return "endless", None
    word, plan, prices, bounds = answer
    assert word == "plan"
    meets(net, plan)
    prices, bounds = plains(prices), plains(bounds)
    worth = plain_worth(net, plains(plan))
    assert weighed(net, prices, bounds) == worth, "another worth"
    earns_no_more(net, prices, bounds, {way.name: plain(way.cost) for way in net.all_ways()})
    return "plan", worth


def looked_most(net, place, answer):
    assert type(answer) is tuple
    if answer[0] == "lack":
        is_lack(net, answer)
        return "lack", None
    if answer[0] == "endless":
        assert plain_sums(net, is_endless(net, answer))[place] > 0, "a strand that brings nothing"
        return "endless", None
    word, amount, plan, prices, bounds = answer
    assert word == "most"
    assert meets(net, plan)[place] == plain(amount), "another amount"
    prices, bounds = plains(prices), plains(bounds)
    assert weighed(net, prices, bounds) == -plain(amount), "another amount by the prices"
    prices[place] += 1
    earns_no_more(net, prices, bounds, {way.name: 0 for way in net.all_ways()})
    return "most", plain(amount)


# An answer, or any part of it, with its numbers as texts.
def look_of_answer(one):
    if isinstance(one, Fraction):
        return one.shown()
    if isinstance(one, dict):
        return [(name, look_of_answer(inner)) for name, inner in one.items()]
    if isinstance(one, (list, tuple)):
        return [look_of_answer(inner) for inner in one]
    return one


# The same net with its places and ways told in another order.
def shuffled(chance, net):
    places = [(name, net.want(name)) for name in net.names()]
    ways = net.all_ways()
    chance.shuffle(places)
    chance.shuffle(ways)
    return Net(places, ways)


# Nets with something in them that an answer may stumble over; by name.
def odd_nets():
    return {
        "nothing": net_of(""),
        "places alone": net_of("a, b -3"),
        "a place that wants": net_of("a 1"),
        "a want that can't be met": net_of("a -1, b 3", "w a b 2"),
        "a bound that is just enough": net_of("a -9, b 6", "w a b 2 3 1"),
        "a bound that is just not enough": net_of("a -9, b 6000001/1000000", "w a b 2 3 1"),
        "a bound of nought": net_of("a -9, b 1", "w a b 2 0 1"),
        "two bounds": net_of("a -9, b 6", "w a b 1 2 1, v a b 3 1 9, u a b 1 7 3"),
        "costs under nought": net_of("a -5, b, c 1", "w a b 1 - -1, v b c 1/2 - 1, u a c 1 - -3"),
        "a bounded way under nought": net_of("a -5, b", "w a b 1 2 -3"),
        "a making ring": net_of("a, b", "w a b 2, v b a"),
        "a making ring that earns": net_of("a, b", "w a b 2 - 1, v b a 1 - -1"),
        "a making ring that costs": net_of("a, b, c 5", "w a b 2 - 1, v b a, u a c 1 - -1/9"),
        "a making ring with a bound": net_of("a, b, c 5", "w a b 2 7 1, v b a, u a c 1 - -9"),
        "an eating ring": net_of("a -3, b", "w a b 1/2 - -1, v b a 1 - -1"),
        "an eating ring without end": net_of("a, b", "w a b 1/2 - -1, v b a 1 - -1"),
        "from making to eating": net_of("a, b, c, d", "w a b 2, v b a, u b c 3, t c d 1/2, s d c 1 - -1"),
        "from making to eating, bounded": net_of("a, b, c, d", "w a b 2, v b a, u b c 3 8, t c d 1/2, s d c 1 - -1"),
        "from making to a round": net_of("a, b, c, d", "w a b 2, v b a, u b c 3, t c d 5, s d c 1/5 - 0"),
        "to a round that earns": net_of("a, b, c, d", "w a b 2 - 9, v b a, u b c 3, t c d 5, s d c 1/5 - -1"),
        "a round that earns": net_of("a, b", "w a b 2 - 1, v b a 1/2 - -2/3"),
        "a round that costs nothing": net_of("a, b", "w a b 2 - 1, v b a 1/2 - -1/2"),
        "a round that costs": net_of("a, b", "w a b 2 - 1, v b a 1/2 - -1/3"),
        "a round that earns with a bound": net_of("a, b", "w a b 2 3 1, v b a 1/2 - -2/3"),
        "rings that meet": net_of("a, b, c", "w a b 2 - 1, v b a, u b c 1 - -9, t c b 1/2"),
        "a lack with endless rings": net_of("a, b, c 1", "w a b 2 - -1, v b a"),
        "ways beside each other": net_of("a -9, b 4", "w a b 1 1 1, v a b 1 1 2, u a b 1 - 3, t a b 1 1 0"),
        "wants of all kinds": net_of("a -1/3, b 2/7, c -1", "w a b 1/2 - 1, v c b 1/2 - 3, u c a 2 - 1"),
        "just what is there": net_of("a -2, b 1, c 1", "w a b, v a c 1/2 - 1, u b c"),
        "more than is there": net_of("a -2, b 1, c 1000001/1000000", "w a b, v a c 1/2 - 1, u b c"),
        "names alike": net_of("a -2, b 1", "a a b 1 - 1, b b a 1 1 1"),
    }
