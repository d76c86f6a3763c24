"""Points 29 and 30, and point 3 for the cheapest plan."""

import unittest

from gainstream.cheapest import cheapest, rows_of
from gainstream.fractions import Fraction
from gainstream.nets import Net
from gainstream.ways import Growing, Leaking, Way

from helper import LONG, chance_net, chances, long_net, look_of, looked_cheapest, net_of, num, odd_nets, shown, shuffled

WANTED = {
    "nothing": ("plan", "0"),
    "places alone": ("plan", "0"),
    "a place that wants": ("lack", None),
    "a want that can't be met": ("lack", None),
    "a bound that is just enough": ("plan", "3"),
    "a bound that is just not enough": ("lack", None),
    "a bound of nought": ("lack", None),
    "two bounds": ("plan", "14"),
    "costs under nought": ("plan", "-15"),
    "a bounded way under nought": ("plan", "-6"),
    "a making ring": ("plan", "0"),
    "a making ring that earns": ("endless", None),
    "a making ring that costs": ("plan", "40/9"),
    "a making ring with a bound": ("plan", "-56"),
    "an eating ring": ("plan", "-9"),
    "an eating ring without end": ("plan", "0"),
    "from making to eating": ("endless", None),
    "from making to eating, bounded": ("plan", "-24"),
    "from making to a round": ("plan", "0"),
    "to a round that earns": ("endless", None),
    "a round that earns": ("endless", None),
    "a round that costs nothing": ("plan", "0"),
    "a round that costs": ("plan", "0"),
    "a round that earns with a bound": ("plan", "-1"),
    "rings that meet": ("endless", None),
    "a lack with endless rings": ("lack", None),
    "ways beside each other": ("plan", "6"),
    "wants of all kinds": ("plan", "29/42"),
    "just what is there": ("plan", "0"),
    "more than is there": ("lack", None),
    "names alike": ("plan", "1"),
}


def text_of(worth):
    return None if worth is None else str(worth)


class Rows(unittest.TestCase):
    def told(self, net):
        before = look_of(net)
        told = rows_of(net)
        self.assertEqual(look_of(net), before)
        self.assertEqual([type(one) for one in told], [list, list, list])
        self.assertIs(type(told), tuple)
        rows, bounds, gains = told
        return [" ".join(shown(row)) for row in rows], " ".join(shown(bounds)), " ".join(shown(gains))

    def test_without_highs(self):
        net = net_of("a -10, b, c 3/2", "w a b 2 - 1, v b c 1/2 - -3, u a c")
        self.assertEqual(self.told(net), (["1 0 1", "-2 1 0", "0 -1/2 -1"], "10 0 -3/2", "-1 3 0"))

    def test_with_highs(self):
        net = net_of("a, b 1", "w a b 2 7/2 1, v b a, u a b 1/3 0 -2/5")
        self.assertEqual(self.told(net), (["1 -1 1", "-2 1 -1/3", "1 0 0", "0 0 1"], "0 -1 7/2 0", "-1 0 2/5"))

    def test_each_kind_of_way(self):
        ways = [Way("w", "a", "b"), Growing("v", "b", "a", num("3/2")), Leaking("u", "b", "a", num("1/3"), LONG, LONG)]
        net = Net([("a", Fraction(0)), ("b", Fraction(0))], ways)
        long = LONG.shown()
        self.assertEqual(self.told(net), (["1 -3/2 -2/3", "-1 1 1", "0 0 1"], "0 0 " + long, "0 0 -" + long))

    def test_none_of_anything(self):
        self.assertEqual(rows_of(net_of("")), ([], [], []))
        self.assertEqual(self.told(net_of("a 1, b -2")), (["", ""], "-1 2", ""))

    def test_the_order_is_the_nets(self):
        net = net_of("b 1, a 2", "z b a 3 4 5, y a b 6 7 8")
        self.assertEqual(self.told(net), (["1 -6", "-3 1", "1 0", "0 1"], "-1 -2 4 7", "-5 -8"))

    def test_names_alike(self):
        net = net_of("a, b", "b a b 2 1, a b a 3 1")
        self.assertEqual(self.told(net)[0], ["1 -3", "-2 1", "1 0", "0 1"])

    def test_what_is_told_is_the_askers_own(self):
        net = net_of("a 1", "")
        told = rows_of(net=net)
        told[0].clear()
        told[1].clear()
        self.assertEqual(self.told(net), ([""], "-1", ""))


class Cheapest(unittest.TestCase):
    def looked(self, net):
        before = look_of(net)
        told = looked_cheapest(net, cheapest(net))
        self.assertEqual(look_of(net), before)
        return told

    def test_odd_nets(self):
        nets = odd_nets()
        self.assertEqual(set(nets), set(WANTED))
        for name, net in nets.items():
            with self.subTest(name):
                word, worth = self.looked(net)
                self.assertEqual((word, text_of(worth)), WANTED[name])

    def test_plainly(self):
        net = net_of("a -10, b, c 3", "w a b 2 4 1, v b c 1/2, u a c 1 - 2")
        told = cheapest(net=net)
        self.assertEqual((told[0], shown(told[1])), ("plan", {"w": "3", "v": "6"}))
        self.assertEqual(shown(told[2])["c"], "1")
        self.assertEqual(shown(told[3]), {"w": "0"})

    def test_the_plan_names_no_noughts(self):
        told = cheapest(net_of("a -10, b", "w a b 2 4 1"))
        self.assertEqual((told[0], told[1]), ("plan", {}))

    def test_endless_strands(self):
        told = cheapest(odd_nets()["from making to eating"])
        self.assertEqual([sorted(walk) for walk in told[2][:3:2]], [["v", "w"], ["s", "t"]])
        self.assertIn("u", told[2][1])
        told = cheapest(odd_nets()["a round that earns"])
        self.assertEqual((sorted(told[2][0]), told[2][1], told[2][2]), (["v", "w"], [], []))

    def test_by_chance(self):
        seen = []
        for chance in chances(400):
            highs = chance.choice([0, 0.3, 0.7, 1])
            net = chance_net(chance, chance.randint(1, 6), chance.randint(0, 12), highs)
            word, worth = self.looked(net)
            self.assertEqual(self.looked(shuffled(chance, net)), (word, worth))
            seen.append(word)
        self.assertGreater(min([seen.count(word) for word in ("plan", "lack", "endless")]), 25)

    def test_the_greatest_nets(self):
        seen = []
        for chance in chances(60):
            wants = chance.choice([(-4, 0), (-4, 1)])
            net = chance_net(chance, 12, 24, chance.choice([0.2, 0.6, 1]), wants, chance.choice([(-1, 4), (0, 4)]))
            word, worth = self.looked(net)
            self.assertEqual(self.looked(shuffled(chance, net)), (word, worth))
            seen.append(word)
        self.assertEqual(set(seen), {"plan", "lack", "endless"})

    # Wants that some plan meets just so.
    def test_wants_that_are_just_met(self):
        for chance in chances(60):
            net = chance_net(chance, 5, 10, 1, (0, 0), (0, 3))
            plan = {way.name: way.high for way in net.all_ways()}
            wants = {place: Fraction(0) for place in net.names()}
            for way in net.all_ways():
                wants[way.start] = wants[way.start].minus(plan[way.name])
                wants[way.goal] = wants[way.goal].plus(way.out(plan[way.name]))
            self.assertEqual(self.looked(net.wanting(wants))[0], "plan")

    def test_many_figures(self):
        for chance in chances(12):
            net = long_net(chance, highs=chance.choice([0.1, 0.5, 1]))
            word, worth = self.looked(net)
            self.assertEqual(self.looked(shuffled(chance, net)), (word, worth))

    def test_what_is_told_is_the_askers_own(self):
        for name in ["two bounds", "a want that can't be met", "from making to eating"]:
            net = odd_nets()[name]
            told = cheapest(net)
            for one in told[1:]:
                if isinstance(one, dict):
                    one.clear()
                else:
                    one[0].clear()
            self.assertEqual(self.looked(net)[0], told[0])


if __name__ == "__main__":
    unittest.main()
