"""Points 16 to 20, and what point 2 says of walks."""

import unittest

from gainstream.errors import Broken, GainError, NoPlace, NoRing, NoWay
from gainstream.fractions import Fraction
from gainstream.walks import cut_short, from_place, gain_of, is_path, is_ring, places_of, sent

from helper import LONG, chance_net, chances, net_of, num, plain, plain_gain, plain_sums, plains, shown

# Two rings, a b c and c d, that meet in c; two ways beside each other from a to b; a way out to e.
NET = net_of("a, b, c, d, e", "w a b 2, v b c 1/3, u c a 3, t c d 5, s d c 1/5, r a b 1/2, q c e 7")

ASKING = [
    places_of, gain_of, is_path, is_ring,
    lambda net, walk: sent(net, walk, Fraction(1)),
    lambda net, walk: from_place(net, walk, "nowhere"),
    cut_short,
]


class Asking(unittest.TestCase):
    def refused(self, kind, ask, told=None):
        with self.assertRaises(GainError) as caught:
            ask()
        self.assertIs(type(caught.exception), kind)
        if kind in (NoWay, Broken):
            self.assertEqual(caught.exception.name, told)
        if kind is NoPlace:
            self.assertEqual(caught.exception.place, told)

    def stays(self, walk, ask):
        before = list(walk)
        told = ask(walk)
        self.assertEqual(walk, before)
        self.assertIsNot(told, walk)
        return told


class Walks(Asking):
    def test_places(self):
        self.assertEqual(places_of(NET, "w v t s".split()), ["a", "b", "c", "d", "c"])
        self.assertEqual(places_of(NET, ["q"]), ["c", "e"])
        self.assertEqual(places_of(net=NET, walk=["w", "v", "u", "w"]), ["a", "b", "c", "a", "b"])

    def test_gain(self):
        self.assertEqual(gain_of(NET, ["w"]).shown(), "2")
        self.assertEqual(gain_of(net=NET, walk="w v t".split()).shown(), "10/3")
        self.assertEqual(gain_of(NET, "w v u w v u".split()).shown(), "4")

    def test_of_no_ways(self):
        self.assertEqual(places_of(NET, []), [])
        self.assertEqual(gain_of(NET, []).shown(), "1")
        self.assertEqual(places_of(net_of(""), []), [])

    def test_a_name_that_is_no_way(self):
        for ask in ASKING:
            self.refused(NoWay, lambda: ask(NET, ["x"]), "x")
            self.refused(NoWay, lambda: ask(NET, ["w", "v", "a", "x"]), "a")
            self.refused(NoWay, lambda: ask(net_of("a"), ["a"]), "a")

    def test_a_way_that_does_not_start_there(self):
        for ask in ASKING:
            self.refused(Broken, lambda: ask(NET, ["w", "u"]), "u")
            self.refused(Broken, lambda: ask(NET, ["w", "w"]), "w")
            self.refused(Broken, lambda: ask(NET, ["w", "r"]), "r")
            self.refused(Broken, lambda: ask(NET, ["w", "v", "q", "u"]), "u")

    def test_whichever_comes_first(self):
        for ask in ASKING:
            self.refused(NoWay, lambda: ask(NET, ["w", "x", "w", "w"]), "x")
            self.refused(Broken, lambda: ask(NET, ["w", "s", "x"]), "s")
            self.refused(NoWay, lambda: ask(NET, ["x", "y"]), "x")

    def test_the_walk_stays(self):
        for ask in ASKING[:5] + [lambda net, walk: from_place(net, walk, "c"), cut_short]:
            self.stays(["w", "v", "u"], lambda walk: ask(NET, walk))

    def test_two_hundred_ways(self):
        walk = ["w", "v", "u", "r", "v", "u"] * 33 + ["w"]
        self.assertEqual(len(places_of(NET, walk)), 200)
        self.assertEqual(gain_of(NET, walk).shown(), "2")


class PathsAndRings(Asking):
    def kinds(self, text):
        walk = text.split()
        told = (self.stays(walk, lambda one: is_path(NET, one)), self.stays(walk, lambda one: is_ring(NET, one)))
        self.assertTrue(all(type(one) is bool for one in told))
        return told

    def test_no_ways(self):
        self.assertEqual(self.kinds(""), (True, False))

    def test_paths(self):
        for text in ["w", "q", "w v", "r v t", "u w", "w v q"]:
            self.assertEqual(self.kinds(text), (True, False))

    def test_rings(self):
        for text in ["w v u", "r v u", "v u w", "u r v", "t s", "s t"]:
            self.assertEqual(self.kinds(text), (False, True))

    def test_a_ring_gone_round_twice(self):
        for text in ["t s t s", "w v u w v u", "w v u r v u"]:
            self.assertEqual(self.kinds(text), (False, False))

    def test_walks_that_come_to_a_place_twice(self):
        for text in ["w v u w", "w v t s", "t s q", "w v t s u", "t s u w v"]:
            self.assertEqual(self.kinds(text), (False, False))

    def test_a_walk_there_and_back(self):
        net = net_of("a, b, c, d", "w a b, v b c, u c b, t b a, s c d, r d c")
        for text in ["w v u t", "w v s r u t", "v u t w", "v s r u"]:
            self.assertIs(is_ring(net, text.split()), False)
            self.assertIs(is_path(net, text.split()), False)

    def test_by_names_of_the_arguments(self):
        self.assertIs(is_path(net=NET, walk=["w"]), True)
        self.assertIs(is_ring(net=NET, walk=["t", "s"]), True)


class Sent(Asking):
    def told(self, text, amount):
        walk = text.split()
        plan = self.stays(walk, lambda one: sent(NET, one, num(amount)))
        self.assertIs(type(plan), dict)
        return shown(plan)

    def test_along_a_path(self):
        self.assertEqual(self.told("w v q", "3"), {"w": "3", "v": "6", "q": "2"})
        self.assertEqual(shown(sent(net=NET, walk=["w"], amount=LONG)), {"w": LONG.shown()})

    def test_round_a_ring(self):
        self.assertEqual(self.told("w v u", "1/2"), {"w": "1/2", "v": "1", "u": "1/3"})

    def test_ways_that_come_several_times(self):
        self.assertEqual(self.told("w v u w v u w", "1"), {"w": "7", "v": "6", "u": "2"})
        self.assertEqual(self.told("t s t s", "2"), {"t": "4", "s": "20"})

    def test_under_nought(self):
        self.assertEqual(self.told("w v", "-1/4"), {"w": "-1/4", "v": "-1/2"})

    def test_nought(self):
        self.assertEqual(self.told("w v u w", "0"), {})

    def test_no_ways(self):
        self.assertEqual(self.told("", "5"), {})

    # Only at the walk's ends anything is taken or brought.
    def test_sums_by_chance(self):
        seen = 0
        for chance in chances(30):
            net = chance_net(chance, 4, 12)
            walk = [chance.choice(net.all_ways())]
            for step in range(chance.randint(0, 40)):
                onward = [way for way in net.all_ways() if way.start == walk[-1].goal]
                if onward:
                    walk.append(chance.choice(onward))
            wanted = {place: 0 for place in net.names()}
            gain = 1
            for way in walk:
                gain *= plain_gain(way)
            wanted[walk[0].start] -= 3
            wanted[walk[-1].goal] += 3 * gain
            names = [way.name for way in walk]
            self.assertEqual(plain_sums(net, plains(sent(net, names, Fraction(3)))), wanted)
            self.assertEqual(plain(gain_of(net, names)), gain)
            seen += len(set(names)) < len(names)
        self.assertGreater(seen, 10)

    # So many that clearing each sum on the way would not end soon.
    def test_two_hundred_ways_with_gains_of_sixty_figures(self):
        net = net_of("a, b", "w a b " + LONG.shown() + ", v b a 5/7")
        plan = sent(net, ["w", "v"] * 100, LONG)
        first = sum([plain(LONG) * (plain(LONG) * 5 / 7) ** k for k in range(100)])
        self.assertEqual(plain(plan["w"]), first)
        self.assertEqual(plain(plan["v"]), first * plain(LONG))


class FromPlace(Asking):
    def test_each_place(self):
        ring = ["w", "v", "u"]
        for place, wanted in [("a", "w v u"), ("b", "v u w"), ("c", "u w v")]:
            self.assertEqual(self.stays(ring, lambda one: from_place(NET, one, place)), wanted.split())
        self.assertEqual(from_place(net=NET, ring=["t", "s"], place="d"), ["s", "t"])

    def test_no_ring(self):
        for text in ["", "w", "w v", "t s t s", "w v t s u", "w v u w"]:
            for place in ["a", "c", "x"]:
                self.refused(NoRing, lambda: from_place(NET, text.split(), place))

    def test_a_place_that_is_none_of_its_places(self):
        for place in ["d", "e", "x", "w"]:
            self.refused(NoPlace, lambda: from_place(NET, ["w", "v", "u"], place), place)

    def test_the_told_walk_is_the_askers_own(self):
        ring = ["w", "v", "u"]
        told = from_place(NET, ring, "a")
        told.append("x")
        self.assertEqual(ring, ["w", "v", "u"])
        ring.append("y")
        self.assertEqual(told, ["w", "v", "u", "x"])


class CutShort(Asking):
    def cut(self, text, wanted):
        told = self.stays(text.split(), lambda one: cut_short(NET, one))
        self.assertEqual(told, wanted.split())
        self.assertTrue(is_path(NET, told))

    def test_paths_stay(self):
        for text in ["", "w", "w v q", "u r"]:
            self.cut(text, text)

    def test_rings_on_the_way(self):
        self.cut("w v t s q", "w v q")
        self.cut("t s q", "q")
        self.cut("w v u w v q", "w v q")
        self.cut("w v u r v q", "r v q")
        self.cut("w v t s t s u r", "r")

    def test_walks_that_end_where_they_start(self):
        for text in ["w v u", "t s", "t s t s", "w v t s u", "w v u r v u"]:
            self.cut(text, "")

    def test_rings_within_rings(self):
        net = net_of("a, b, c, d", "w a b, v b c, u c b, t c d, s d a, r b d")
        self.assertEqual(cut_short(net, "w v u v u v t".split()), "w v t".split())
        self.assertEqual(cut_short(net, "w v u r s w v".split()), ["w", "v"])
        self.assertEqual(cut_short(net, "w v t s w r".split()), ["w", "r"])

    # What was left out does not count as a place where it was.
    def test_places_left_out_are_forgotten(self):
        net = net_of("a, b, c, d", "w a b, v b c, u c a, t a c, s c b, r b d")
        self.assertEqual(cut_short(net, "w v u t s r".split()), "t s r".split())

    def test_by_names_of_the_arguments(self):
        self.assertEqual(cut_short(net=NET, walk=["t", "s", "q"]), ["q"])

    def test_the_told_walk_is_the_askers_own(self):
        walk = ["w", "v"]
        cut_short(NET, walk).append("x")
        self.assertEqual(walk, ["w", "v"])


if __name__ == "__main__":
    unittest.main()
