"""Points 10 and 11, and what point 2 says of nets."""

import unittest

from gainstream.errors import GainError, NoPlace, NoWay, TooMany, Twice
from gainstream.fractions import Fraction
from gainstream.nets import Net
from gainstream.ways import Growing, Leaking, Store, Way

from helper import LONG, look_of, num, places_of, ways_of

PLACES = "a 1, b -2/3, c"
WAYS = "w a b 2, v b c 1/2 7 -1, u a b"


def many_places(count):
    return [("p" + str(i), Fraction(i)) for i in range(count)]


def many_ways(count):
    return [Way("w" + str(i), "p0", "p1") for i in range(count)]


class Making(unittest.TestCase):
    def refused(self, kind, places, ways, told=None):
        with self.assertRaises(GainError) as caught:
            Net(places, ways)
        self.assertIs(type(caught.exception), kind)
        if kind is NoPlace:
            self.assertEqual(caught.exception.place, told)
        elif kind is not TooMany:
            self.assertEqual(caught.exception.name, told)

    def test_none_of_either(self):
        net = Net([], [])
        self.assertEqual((net.names(), net.all_ways()), ([], []))

    def test_places_alone(self):
        net = Net(places=places_of(PLACES), ways=[])
        self.assertEqual(net.names(), ["a", "b", "c"])
        self.assertEqual(net.all_ways(), [])

    def test_each_kind_of_way_but_stores(self):
        ways = [Way("w", "a", "b"), Growing("v", "b", "a", LONG), Leaking("u", "a", "c", Fraction(1, 3))]
        self.assertEqual(Net(places_of(PLACES), ways).all_ways(), ways)

    def test_the_most_of_both(self):
        net = Net(many_places(12), many_ways(24))
        self.assertEqual(net.names(), ["p" + str(i) for i in range(12)])
        self.assertEqual([way.name for way in net.all_ways()], ["w" + str(i) for i in range(24)])

    def test_too_many_places(self):
        self.refused(TooMany, many_places(13), [])
        self.refused(TooMany, many_places(200), many_ways(24))

    def test_too_many_ways(self):
        self.refused(TooMany, many_places(2), many_ways(25))
        self.refused(TooMany, [], many_ways(200))

    def test_too_many_is_asked_ahead_of_all_else(self):
        self.refused(TooMany, many_places(12) + many_places(1), [])
        self.refused(TooMany, many_places(1) * 13, [])
        store = Store("s", "x", Fraction(0))
        self.refused(TooMany, many_places(13), [store])
        self.refused(TooMany, many_places(1) * 2, [store] * 25)
        self.refused(TooMany, many_places(2), [Way("w", "x", "y")] * 25)

    def test_a_place_twice(self):
        self.refused(Twice, places_of("a, b, a"), [], "a")
        self.refused(Twice, places_of("a, b, b 1, a"), [], "b")
        self.refused(Twice, places_of("a 1, a 1"), [], "a")

    def test_a_place_twice_comes_ahead_of_any_fault_of_a_way(self):
        for way in [Store("s", "a", Fraction(0)), Way("w", "x", "a"), Way("w", "a", "x")]:
            self.refused(Twice, places_of("a, b, b"), [way, way], "b")

    def test_a_store(self):
        store = Store("s", "a", Fraction(0))
        self.refused(NoWay, places_of(PLACES), [store], "s")
        self.refused(NoWay, places_of(PLACES), ways_of(WAYS) + [store], "s")

    def test_a_way_twice(self):
        self.refused(Twice, places_of(PLACES), ways_of("w a b, v b c, w a b"), "w")
        self.refused(Twice, places_of(PLACES), ways_of("w a b, v b c, v c a, w a b"), "v")

    def test_a_start_that_is_no_place(self):
        self.refused(NoPlace, places_of(PLACES), ways_of("w a b, v x c"), "x")
        self.refused(NoPlace, [], ways_of("w a b"), "a")

    def test_a_goal_that_is_no_place(self):
        self.refused(NoPlace, places_of(PLACES), ways_of("w a b, v c x"), "x")

    def test_the_order_within_a_way(self):
        store = Store("w", "x", Fraction(0))
        self.refused(NoWay, places_of(PLACES), ways_of("w a b") + [store], "w")
        self.refused(Twice, places_of(PLACES), ways_of("w a b, w x y"), "w")
        self.refused(NoPlace, places_of(PLACES), ways_of("w x y"), "x")

    def test_the_first_way_with_a_fault_is_told(self):
        store = Store("s", "a", Fraction(0))
        self.refused(NoPlace, places_of(PLACES), ways_of("w a y") + [store] + ways_of("w a b"), "y")
        self.refused(NoWay, places_of(PLACES), ways_of("w a b") + [store] + ways_of("w a b, v x y"), "s")
        self.refused(Twice, places_of(PLACES), ways_of("w a b, w a b") + [store], "w")
        self.refused(NoPlace, places_of(PLACES), ways_of("w a x, v y b"), "x")

    def test_a_place_and_a_way_with_the_same_name(self):
        net = Net(places_of("a 1, b 2"), ways_of("a a b, b b a"))
        self.assertEqual(net.want("a").shown(), "1")
        self.assertEqual(net.way("a").goal, "b")

    def test_ways_beside_each_other(self):
        net = Net(places_of("a, b"), ways_of("w a b, v a b 2"))
        self.assertEqual([way.name for way in net.all_ways()], ["w", "v"])

    def test_long_names_with_points(self):
        name = "a1." * 20
        net = Net([(name, LONG), ("b", LONG)], [Way(name, name, "b")])
        self.assertEqual(net.names(), [name, "b"])
        self.assertIs(net.want(name), LONG)

    def test_what_is_handed_in_stays(self):
        places = places_of(PLACES)
        ways = ways_of(WAYS)
        kept = (list(places), list(ways))
        net = Net(places, ways)
        net.names().append("x")
        net.all_ways().clear()
        net.wanting({"a": Fraction(7)})
        self.assertEqual((places, ways), kept)
        self.assertTrue(all(one is other for one, other in zip(ways, kept[1])))


class Telling(unittest.TestCase):
    def setUp(self):
        self.places = places_of(PLACES)
        self.ways = ways_of(WAYS)
        self.net = Net(self.places, self.ways)

    def no_place(self, ask, told):
        with self.assertRaises(NoPlace) as caught:
            ask()
        self.assertEqual(caught.exception.place, told)

    def test_names_and_wants(self):
        self.assertEqual(self.net.names(), ["a", "b", "c"])
        self.assertEqual([self.net.want(place).shown() for place in self.net.names()], ["1", "-2/3", "0"])
        self.assertEqual(self.net.want(place="b").shown(), "-2/3")

    def test_ways_are_the_very_ones(self):
        told = self.net.all_ways()
        self.assertIs(type(told), list)
        self.assertEqual(len(told), 3)
        self.assertTrue(all(one is other for one, other in zip(told, self.ways)))
        for way in self.ways:
            self.assertIs(self.net.way(name=way.name), way)

    def test_order_is_as_handed_in(self):
        net = Net(places_of("c, a, b"), ways_of("z a b, y b c, x c a"))
        self.assertEqual(net.names(), ["c", "a", "b"])
        self.assertEqual([way.name for way in net.all_ways()], ["z", "y", "x"])

    def test_names_that_are_not_there(self):
        for name in ["x", "w", "A", ""]:
            self.no_place(lambda: self.net.want(name), name)
        for name in ["x", "a", "W", ""]:
            with self.assertRaises(NoWay) as caught:
                self.net.way(name)
            self.assertEqual(caught.exception.name, name)

    def test_lists_changed_behind(self):
        before = look_of(self.net)
        self.places[0] = ("a", Fraction(9))
        self.places.append(("d", Fraction(1)))
        self.ways.reverse()
        self.ways.pop()
        self.assertEqual(look_of(self.net), before)
        self.no_place(lambda: self.net.want("d"), "d")

    def test_told_lists_changed(self):
        before = look_of(self.net)
        self.net.names().append("d")
        self.net.names()[0] = "x"
        self.net.all_ways().pop()
        self.net.all_ways().reverse()
        self.assertEqual(look_of(self.net), before)
        self.assertIsNot(self.net.names(), self.net.names())
        self.assertIsNot(self.net.all_ways(), self.net.all_ways())

    def test_wanting(self):
        other = self.net.wanting({"c": num("5/2"), "a": Fraction(-1)})
        self.assertIs(type(other), Net)
        self.assertEqual(look_of(other)[0], [("a", "-1"), ("b", "-2/3"), ("c", "5/2")])
        self.assertTrue(all(one is two for one, two in zip(other.all_ways(), self.ways)))
        self.assertEqual(len(other.all_ways()), 3)

    def test_wanting_nothing_else(self):
        other = self.net.wanting(wants={})
        self.assertIsNot(other, self.net)
        self.assertEqual(look_of(other), look_of(self.net))

    def test_wanting_with_no_places(self):
        self.assertEqual(Net([], []).wanting({}).names(), [])
        self.no_place(lambda: Net([], []).wanting({"a": LONG}), "a")

    def test_wanting_with_names_that_are_no_places(self):
        self.no_place(lambda: self.net.wanting({"a": LONG, "w": LONG, "x": LONG}), "w")
        self.no_place(lambda: self.net.wanting({"x": LONG, "a": LONG, "w": LONG}), "x")

    def test_the_old_net_and_the_dict_stay(self):
        before = look_of(self.net)
        wants = {"b": Fraction(4), "a": Fraction(5)}
        other = self.net.wanting(wants)
        self.assertEqual(look_of(self.net), before)
        self.assertEqual([(name, want.shown()) for name, want in wants.items()], [("b", "4"), ("a", "5")])
        told = look_of(other)
        wants["a"] = Fraction(77)
        wants["c"] = Fraction(78)
        self.assertEqual(look_of(other), told)

    def test_wanting_again(self):
        other = self.net.wanting({"a": Fraction(4)}).wanting({"b": Fraction(5)})
        self.assertEqual(look_of(other)[0], [("a", "4"), ("b", "5"), ("c", "0")])

    def test_wanting_in_the_greatest_net(self):
        net = Net(many_places(12), many_ways(24)).wanting({"p11": Fraction(1)})
        self.assertEqual(len(net.names()), 12)
        self.assertEqual(net.want("p11").shown(), "1")
        self.assertEqual(net.want("p10").shown(), "10")


if __name__ == "__main__":
    unittest.main()
