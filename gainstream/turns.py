"""Nets that go on for some turns, with stores from turn to turn."""

from gainstream.errors import Twice
from gainstream.fractions import total
from gainstream.nets import Net
from gainstream.plans import amount, refuse_other_names, without_noughts
from gainstream.ways import name_at


def refuse_stores(net, stores):
    ahead = {}
    for way in net.all_ways():
        ahead[way.name] = True
    for store in stores:
        if store.name in ahead:
            raise Twice(store.name)
        net.want(store.start)
        ahead[store.name] = True


def refuse_wants(net, wants):
    for own_wants in wants:
        for place in own_wants:
            net.want(place)


def places_at(net, own_wants, turn):
    return [(name_at(place, turn), own_wants.get(place, net.want(place))) for place in net.names()]


def turned(net, stores, wants):
    refuse_stores(net, stores)
    refuse_wants(net, wants)
    places = []
    ways = []
    for turn, own_wants in enumerate(wants, start=1):
        places.extend(places_at(net, own_wants, turn))
        ways.extend([way.at_turn(turn) for way in net.all_ways()])
        if turn < len(wants):
            ways.extend([store.at_turn(turn) for store in stores])
    return Net(places, ways)


def own_plan(net, plan, turn):
    own = {}
    for way in net.all_ways():
        own[way.name] = amount(plan, name_at(way.name, turn))
    return without_noughts(own)


# The stores' ways of a turn that isn't there have no names in the plan, so
# they bring and take nought.
def taken_in(net, stores, plan, turn):
    taken = {}
    for place in net.names():
        here = [store for store in stores if store.start == place]
        taken[place] = total([store.out(amount(plan, name_at(store.name, turn - 1))) for store in here])
    return taken


def put_in(net, stores, plan, turn):
    put = {}
    for place in net.names():
        here = [store for store in stores if store.start == place]
        put[place] = total([amount(plan, name_at(store.name, turn)) for store in here])
    return put


def by_turns(net, stores, wants, plan):
    refuse_other_names(turned(net, stores, wants), plan)
    told = []
    for turn in range(1, len(wants) + 1):
        own = own_plan(net, plan, turn)
        told.append((own, taken_in(net, stores, plan, turn), put_in(net, stores, plan, turn)))
    return told
