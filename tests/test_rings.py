"""Point 21, and what point 2 says of it."""

import unittest

from gainstream.errors import NoWay
from gainstream.fractions import Fraction
from gainstream.nets import Net
from gainstream.rings import eating, making
from gainstream.ways import Growing, Leaking, Way

from helper import LONG, all_rings, chance_net, chances, is_plain_ring, long_net, net_of, num, plain, plain_gain, \
    plain_walk_gain, plains

BOTH = [making, eating]


class Asking(unittest.TestCase):
    # Looks at what is told by its own sums, and tells its word.
    def looked(self, ask, net, names):
        before = list(names)
        told = ask(net, names)
        self.assertEqual(names, before)
        self.assertIs(type(told), tuple)
        self.assertEqual(len(told), 2)
        if told[0] == "ring":
            self.is_told_ring(ask, net, names, told[1])
        else:
            self.assertEqual(told[0], "weights")
            self.are_told_weights(ask, net, names, told[1])
        return told[0]

    def is_told_ring(self, ask, net, names, walk):
        self.assertIs(type(walk), list)
        self.assertTrue(is_plain_ring(net, walk))
        self.assertTrue(set(walk) <= set(names))
        gain = plain_walk_gain(net, walk)
        self.assertTrue(gain > 1 if ask is making else gain < 1)

    def are_told_weights(self, ask, net, names, told):
        self.assertIs(type(told), dict)
        self.assertEqual(set(told), set(net.names()))
        values = plains(told)
        self.assertTrue(all(value > 0 for value in values.values()))
        for name in names:
            way = net.way(name)
            made = plain_gain(way) * values[way.goal]
            self.assertTrue(made <= values[way.start] if ask is making else made >= values[way.start])

    def words(self, net, names):
        return [self.looked(ask, net, names) for ask in BOTH]


class Plainly(Asking):
    def test_a_making_ring(self):
        self.assertEqual(self.words(net_of("a, b", "w a b 2, v b a 2/3"), ["w", "v"]), ["ring", "weights"])

    def test_an_eating_ring(self):
        self.assertEqual(self.words(net_of("a, b", "w a b 2, v b a 1/3"), ["w", "v"]), ["weights", "ring"])

    def test_both_kinds_of_rings(self):
        net = net_of("a, b, c", "w a b 2, v b a, u b c 1/2, t c b")
        self.assertEqual(self.words(net, ["w", "v", "u", "t"]), ["ring", "ring"])
        self.assertEqual(self.words(net, ["w", "v"]), ["ring", "weights"])
        self.assertEqual(self.words(net, ["u", "t"]), ["weights", "ring"])

    def test_a_ring_with_gain_just_one(self):
        net = net_of("a, b, c", "w a b 2, v b c 3/5, u c a 5/6")
        self.assertEqual(self.words(net, ["w", "v", "u"]), ["weights", "weights"])
        nearly = net_of("a, b, c", "w a b 2, v b c 3/5, u c a 500000001/600000000")
        self.assertEqual(self.words(nearly, ["w", "v", "u"]), ["ring", "weights"])
        nearly = net_of("a, b, c", "w a b 2, v b c 3/5, u c a 499999999/600000000")
        self.assertEqual(self.words(nearly, ["w", "v", "u"]), ["weights", "ring"])

    def test_each_kind_of_way(self):
        ways = [Way("w", "a", "b"), Growing("v", "b", "c", num("3/2")), Leaking("u", "c", "a", num("1/3")),
                Leaking("t", "c", "a", num("1/4")), Leaking("s", "c", "a", num("1/2"))]
        net = Net([(name, Fraction(0)) for name in "abc"], ways)
        self.assertEqual(self.words(net, ["w", "v", "u"]), ["weights", "weights"])
        self.assertEqual(self.words(net, ["w", "v", "u", "t"]), ["ring", "weights"])
        self.assertEqual(self.words(net, ["w", "v", "u", "s"]), ["weights", "ring"])

    def test_no_rings_at_all(self):
        net = net_of("a, b, c", "w a b 5, v b c 1/7, u a c 100")
        self.assertEqual(self.words(net, ["u", "v", "w"]), ["weights", "weights"])

    def test_ways_beside_each_other(self):
        net = net_of("a, b", "w a b 2, v b a 1/2, u b a 2/3, t b a 1/3")
        self.assertEqual(self.words(net, ["w", "v"]), ["weights", "weights"])
        self.assertEqual(self.words(net, ["w", "v", "u"]), ["ring", "weights"])
        self.assertEqual(self.words(net, ["w", "v", "t"]), ["weights", "ring"])
        self.assertEqual(self.words(net, ["w", "v", "u", "t"]), ["ring", "ring"])

    def test_names_that_come_several_times(self):
        net = net_of("a, b", "w a b 2, v b a 2/3")
        self.assertEqual(self.words(net, ["w", "w", "v", "w", "v"]), ["ring", "weights"])
        self.assertEqual(self.words(net, ["w"] * 200), ["weights", "weights"])

    def test_the_empty_list(self):
        net = net_of("a, b", "w a b 2, v b a 2")
        for ask in BOTH:
            told = ask(net, [])
            self.assertEqual(told[0], "weights")
            self.assertEqual(set(told[1]), {"a", "b"})
            self.assertTrue(all(plain(value) > 0 for value in told[1].values()))
            self.assertEqual(ask(net_of(""), []), ("weights", {}))

    def test_ways_that_are_not_named_do_not_count(self):
        net = net_of("a, b, c", "w a b 2, v b a 2, u b c 1/2, t c a 1/2")
        self.assertEqual(self.words(net, ["w", "u", "t"]), ["weights", "ring"])
        self.assertEqual(self.words(net, ["u", "t"]), ["weights", "weights"])

    def test_names_that_are_no_ways(self):
        net = net_of("a, b", "w a b 2, v b a 2")
        for ask in BOTH:
            for names, told in [(["x"], "x"), (["w", "v", "y", "x"], "y"), (["a", "x"], "a")]:
                with self.assertRaises(NoWay) as caught:
                    ask(net, names)
                self.assertEqual(caught.exception.name, told)

    def test_names_of_the_arguments(self):
        for ask in BOTH:
            self.assertEqual(ask(net=net_of(""), names=[])[0], "weights")

    def test_what_is_told_is_the_askers_own(self):
        net = net_of("a, b", "w a b 2, v b a 2")
        names = ["w", "v"]
        told = making(net, names)
        names.clear()
        self.assertEqual(sorted(told[1]), ["v", "w"])
        told[1].append("x")
        weights = eating(net, ["w"])[1]
        weights.clear()
        self.assertEqual(self.words(net, ["w", "v"]), ["ring", "weights"])


class Many(Asking):
    def test_long_rings(self):
        for last, wanted in [("1", ["weights", "weights"]), ("3", ["ring", "weights"]), ("1/3", ["weights", "ring"])]:
            for start in range(12):
                names = ["p" + str((start + 5 * i) % 12) for i in range(12)]
                gains = ["2", "1/2"] * 5 + ["7/5", None]
                rows = [f"w{i} {names[i]} {names[(i + 1) % 12]} {gains[i]}" for i in range(11)]
                rows.append(f"w11 {names[11]} {names[0]} {(num('5/7').times(num(last))).shown()}")
                net = net_of(", ".join(sorted(names)), ", ".join(rows))
                self.assertEqual(self.words(net, ["w" + str(i) for i in range(12)]), wanted)

    # A long way to the ring, and a ring of two that is found late.
    def test_a_small_ring_behind_a_long_path(self):
        for gain, wanted in [("1001/1000", ["ring", "weights"]), ("999/1000", ["weights", "ring"])]:
            rows = [f"w{i} p{i} p{i + 1} {10 + i}" for i in range(11)]
            rows.append(f"back p11 p10 {num(gain).over(Fraction(20)).shown()}")
            net = net_of(", ".join(["p" + str(i) for i in range(12)]), ", ".join(rows))
            self.assertEqual(self.words(net, [way.name for way in net.all_ways()]), wanted)

    def test_by_chance(self):
        seen = []
        for chance in chances(400):
            net = chance_net(chance, chance.randint(1, 6), chance.randint(0, 10))
            names = [way.name for way in net.all_ways() if chance.random() < 0.8]
            gains = [plain_walk_gain(net, ring) for ring in all_rings(net, names)]
            wanted = ["ring" if any(gain > 1 for gain in gains) else "weights",
                      "ring" if any(gain < 1 for gain in gains) else "weights"]
            self.assertEqual(self.words(net, names), wanted)
            seen.append(tuple(wanted))
        self.assertEqual(len(set(seen)), 4)

    # Gains that stand for heights: each ring has just 1.
    def test_great_nets_all_of_whose_rings_have_gain_one(self):
        for chance in chances(6):
            heights = [Fraction(chance.randrange(1, 10 ** 30), chance.randrange(1, 10 ** 30)) for i in range(12)]
            ways = []
            for i in range(24):
                start, goal = chance.sample(range(12), 2)
                ways.append(Growing("w" + str(i), "p" + str(start), "p" + str(goal),
                                    heights[start].over(heights[goal])))
            places = [("p" + str(i), Fraction(0)) for i in range(12)]
            names = [way.name for way in ways]
            self.assertEqual(self.words(Net(places, ways), names), ["weights", "weights"])
            first = ways[0]
            back = Growing("back", first.goal, first.start, LONG.over(first.rate))
            self.assertEqual(self.words(Net(places, ways[:23] + [back]), names[:23] + ["back"]), ["weights", "ring"])

    def test_many_figures(self):
        for chance in chances(12):
            net = long_net(chance)
            self.words(net, [way.name for way in net.all_ways()])


if __name__ == "__main__":
    unittest.main()
