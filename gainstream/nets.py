"""Nets: places with their wants, and the ways between them."""

from gainstream.errors import NoPlace, NoWay, TooMany, Twice
from gainstream.ways import Store

MOST_PLACES = 12
MOST_WAYS = 24


def wants_by_name(places):
    wants = {}
    for name, want in places:
        if name in wants:
            raise Twice(name)
        wants[name] = want
    return wants


def check_way(way, ahead, wants):
    if isinstance(way, Store):
        raise NoWay(way.name)
    if way.name in ahead:
        raise Twice(way.name)
    for place in (way.start, way.goal):
        if place not in wants:
            raise NoPlace(place)


def ways_by_name(ways, wants):
    ahead = {}
    for way in ways:
        check_way(way, ahead, wants)
        ahead[way.name] = way
    return ahead


# The dicts are the net's own and stay within it: whatever is told of them is
# told by value or in a new list.
class Net:
    def __init__(self, places, ways):
        if len(places) > MOST_PLACES or len(ways) > MOST_WAYS:
            raise TooMany("the net has too many places or ways")
        self.wants = wants_by_name(places)
        self.ways = ways_by_name(ways, self.wants)

    def names(self):
        return list(self.wants)

    def want(self, place):
        if place not in self.wants:
            raise NoPlace(place)
        return self.wants[place]

    def way(self, name):
        if name not in self.ways:
            raise NoWay(name)
        return self.ways[name]

    def all_ways(self):
        return list(self.ways.values())

    def wanting(self, wants):
        for name in wants:
            if name not in self.wants:
                raise NoPlace(name)
        places = [(name, wants.get(name, want)) for name, want in self.wants.items()]
        return Net(places, self.all_ways())
