"""Walks: lists of names of ways, each of which starts where the one ahead ends."""

from gainstream.errors import Broken, NoPlace, NoRing
from gainstream.fractions import Fraction, total
from gainstream.plans import without_noughts


# Every question about a walk goes by here first, so each refuses alike.
def ways_of(net, walk):
    ways = []
    for name in walk:
        way = net.way(name)
        if ways != [] and ways[-1].goal != way.start:
            raise Broken(name)
        ways.append(way)
    return ways


def places_of(net, walk):
    ways = ways_of(net, walk)
    if ways == []:
        return []
    return [ways[0].start] + [way.goal for way in ways]


def gain_of(net, walk):
    gain = Fraction(1)
    for way in ways_of(net, walk):
        gain = way.out(gain)
    return gain


def all_unlike(names):
    return len(set(names)) == len(names)


def is_path(net, walk):
    return all_unlike(places_of(net, walk))


def is_ring(net, walk):
    places = places_of(net, walk)
    return places != [] and places[0] == places[-1] and all_unlike(places[1:])


def sent(net, walk, amount):
    parts = {}
    going = amount
    for way in ways_of(net, walk):
        parts[way.name] = parts.get(way.name, []) + [going]
        going = way.out(going)
    plan = {}
    for name, some in parts.items():
        plan[name] = total(some)
    return without_noughts(plan)


def from_place(net, ring, place):
    places = places_of(net, ring)
    if not is_ring(net, ring):
        raise NoRing("the walk is no ring")
    if place not in places:
        raise NoPlace(place)
    first = places.index(place)
    return ring[first:] + ring[:first]


def cut_short(net, walk):
    kept = []
    places = places_of(net, walk)[:1]
    for way in ways_of(net, walk):
        if way.goal in places:
            back = places.index(way.goal)
            kept = kept[:back]
            places = places[:back + 1]
        else:
            kept.append(way.name)
            places.append(way.goal)
    return kept
