"""Point 31, and point 3 for the most that comes to a place."""

import unittest

from gainstream.errors import NoPlace
from gainstream.most import most

from helper import chance_net, chances, long_net, look_of, looked_most, net_of, odd_nets, shown, shuffled

# By the names of odd nets and places; of what is not named here only the paper is looked at.
WANTED = {
    ("places alone", "a"): ("most", "0"),
    ("places alone", "b"): ("most", "0"),
    ("a place that wants", "a"): ("lack", None),
    ("a want that can't be met", "a"): ("lack", None),
    ("a bound that is just enough", "a"): ("most", "-3"),
    ("a bound that is just enough", "b"): ("most", "6"),
    ("a bound that is just not enough", "b"): ("lack", None),
    ("two bounds", "b"): ("most", "11"),
    ("two bounds", "a"): ("most", "-4"),
    ("costs under nought", "c"): ("most", "5"),
    ("costs under nought", "b"): ("most", "4"),
    ("costs under nought", "a"): ("most", "-1"),
    ("a making ring", "a"): ("endless", None),
    ("a making ring", "b"): ("endless", None),
    ("a making ring that costs", "c"): ("endless", None),
    ("a making ring with a bound", "a"): ("most", "2"),
    ("a making ring with a bound", "c"): ("most", "7"),
    ("an eating ring", "a"): ("most", "0"),
    ("an eating ring", "b"): ("most", "3/2"),
    ("from making to eating", "d"): ("endless", None),
    ("from making to eating, bounded", "c"): ("most", "24"),
    ("from making to eating, bounded", "a"): ("endless", None),
    ("from making to eating, bounded", "d"): ("most", "12"),
    ("a round that earns", "a"): ("most", "0"),
    ("a round that costs", "b"): ("most", "0"),
    ("a lack with endless rings", "a"): ("lack", None),
    ("just what is there", "a"): ("most", "-2"),
    ("just what is there", "c"): ("most", "1"),
    ("names alike", "b"): ("most", "2"),
}


class Most(unittest.TestCase):
    def looked(self, net, place):
        before = look_of(net)
        told = looked_most(net, place, most(net, place))
        self.assertEqual(look_of(net), before)
        return told

    def test_odd_nets(self):
        seen = []
        for name, net in odd_nets().items():
            for place in net.names():
                with self.subTest(name, place=place):
                    word, amount = self.looked(net, place)
                    told = (word, None if amount is None else str(amount))
                    self.assertEqual(WANTED.get((name, place), told), told)
                    seen.append((name, place))
        self.assertTrue(set(WANTED) <= set(seen))

    def test_plainly(self):
        net = net_of("a -10, b, c 3", "w a b 2 4 1, v b c 1/2")
        told = most(net=net, place="c")
        self.assertEqual((told[0], told[1].shown(), shown(told[2])), ("most", "4", {"w": "4", "v": "8"}))
        self.assertEqual(shown(told[4]), {"w": "1"})

    # The wants of the other places are met first.
    def test_other_wants(self):
        net = net_of("a -10, b 3, c", "w a b, v a c 2")
        self.assertEqual(self.looked(net, "c")[1], 14)
        self.assertEqual(self.looked(net, "b")[1], 10)
        self.assertEqual(self.looked(net, "a")[1], -3)

    def test_its_own_want(self):
        net = net_of("a -10, b 3", "w a b 1/2")
        self.assertEqual(self.looked(net, "b")[1], 5)
        self.assertEqual(self.looked(net.wanting({"b": net.want("a")}), "b")[1], 5)
        self.assertEqual(self.looked(net.wanting({"a": net.want("b")}), "b")[0], "lack")

    def test_costs_are_not_looked_at(self):
        dear = net_of("a -10, b", "w a b 1 - 1000")
        cheap = net_of("a -10, b", "w a b 1 - -1000")
        self.assertEqual([self.looked(net, "b")[1] for net in (dear, cheap)], [10, 10])
        ring = net_of("a, b, c", "w a b 2 - 1000, v b a, u a c")
        self.assertEqual([self.looked(ring, place)[0] for place in "abc"], ["endless"] * 3)

    def test_an_endless_strand_ends_at_the_place(self):
        net = net_of("a, b, c, d", "w a b 2, v b a, u b c, t c d 1/2, s d c")
        for place in "abcd":
            head, path, tail, amount = most(net, place)[2]
            self.assertEqual((sorted(head), tail), (["v", "w"], []))

    def test_a_name_that_is_no_place(self):
        net = net_of("a -10, b 3", "w a b 1/2")
        for asked, name in [(net, "x"), (net, "w"), (net_of(""), "a"), (odd_nets()["a place that wants"], "b")]:
            with self.assertRaises(NoPlace) as caught:
                most(asked, name)
            self.assertEqual(caught.exception.place, name)

    def test_by_chance(self):
        seen = []
        for chance in chances(300):
            net = chance_net(chance, chance.randint(1, 6), chance.randint(0, 12), chance.choice([0, 0.3, 0.7, 1]))
            for place in net.names():
                word, amount = self.looked(net, place)
                seen.append(word)
            self.assertEqual(self.looked(shuffled(chance, net), place), (word, amount))
        self.assertGreater(min([seen.count(word) for word in ("most", "lack", "endless")]), 100)

    def test_the_greatest_nets(self):
        seen = []
        for chance in chances(30):
            net = chance_net(chance, 12, 24, chance.choice([0.2, 0.6, 1]), chance.choice([(-4, 0), (-4, 1)]))
            place = chance.choice(net.names())
            word, amount = self.looked(net, place)
            self.assertEqual(self.looked(shuffled(chance, net), place), (word, amount))
            seen.append(word)
        self.assertEqual(set(seen), {"most", "lack", "endless"})

    def test_many_figures(self):
        for chance in chances(12):
            net = long_net(chance, highs=chance.choice([0.1, 0.5, 1]))
            place = chance.choice(net.names())
            self.assertEqual(self.looked(shuffled(chance, net), place), self.looked(net, place))

    def test_what_is_told_is_the_askers_own(self):
        net = net_of("a -10, b, c 3", "w a b 2 4 1, v b c 1/2")
        told = most(net, "c")
        for one in told[2:]:
            one.clear()
        self.assertEqual(self.looked(net, "c"), ("most", 4))


if __name__ == "__main__":
    unittest.main()
