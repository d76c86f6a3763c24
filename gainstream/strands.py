"""Strands: rounds, and roads out of making rings and into eating ones."""

from gainstream.errors import Broken, NoStrand, NoWay
from gainstream.fractions import Fraction
from gainstream.plans import together
from gainstream.walks import gain_of, is_path, is_ring, places_of, sent


def is_walk(net, names):
    try:
        places_of(net, names)
    except NoWay:
        return False
    except Broken:
        return False
    return True


# 1, 0 or -1: whether what goes round a walk comes back as more, as much, less.
def growth(net, walk):
    return gain_of(net, walk).minus(Fraction(1)).sign()


def is_ring_with(net, walk, wanted):
    return is_ring(net, walk) and growth(net, walk) == wanted


def is_round(net, head, path, tail):
    return path == [] and tail == [] and is_ring_with(net, head, 0)


def parts_meet(net, parts):
    met = [places_of(net, walk) for walk in parts if walk != []]
    for ahead, behind in zip(met, met[1:]):
        if ahead[-1] != behind[0]:
            return False
    return True


def is_road(net, head, path, tail):
    if head == [] and path == [] and tail == []:
        return False
    if head != [] and not is_ring_with(net, head, 1):
        return False
    if tail != [] and not is_ring_with(net, tail, -1):
        return False
    return is_path(net, path) and parts_meet(net, [head, path, tail])


def is_strand(net, strand):
    head = strand[0]
    path = strand[1]
    tail = strand[2]
    for names in (head, path, tail):
        if not is_walk(net, names):
            return False
    if strand[3].sign() <= 0:
        return False
    return is_round(net, head, path, tail) or is_road(net, head, path, tail)


def head_plan(net, head, amount):
    more = gain_of(net, head).minus(Fraction(1))
    return sent(net, head, amount.over(more))


def tail_plan(net, tail, amount):
    less = Fraction(1).minus(gain_of(net, tail))
    return sent(net, tail, amount.over(less))


def road_plan(net, head, path, tail, amount):
    plan = sent(net, path, amount)
    if head != []:
        plan = together(plan, head_plan(net, head, amount))
    if tail != []:
        left = gain_of(net, path).times(amount)
        plan = together(plan, tail_plan(net, tail, left))
    return plan


def strand_plan(net, strand):
    if not is_strand(net, strand):
        raise NoStrand("this is neither a round nor a road")
    head = strand[0]
    path = strand[1]
    tail = strand[2]
    if is_round(net, head, path, tail):
        return sent(net, head, strand[3])
    return road_plan(net, head, path, tail, strand[3])
