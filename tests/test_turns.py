"""Points 33, 34 and 35, and what point 2 says of turns."""

import unittest

from gainstream.cheapest import cheapest
from gainstream.errors import GainError, NoPlace, NoWay, TooMany, Twice
from gainstream.fractions import Fraction
from gainstream.nets import Net
from gainstream.plans import checked
from gainstream.turns import by_turns, turned
from gainstream.ways import Growing, Leaking, Store, Way

from helper import LONG, chance_net, chances, long_number, look_of, net_of, num, plain, plain_gain, plain_sums, \
    plains, plan_of, shown, small_number

NET = net_of("a -1, b 2", "w a b 2 4 1, v b a 1/3")


def stores():
    return [Store("s", "a", num("1/2"), num("3"), num("1/7")), Store("r", "b", Fraction(0))]


def name_look(net):
    return [(way.name, way.start, way.goal) for way in net.all_ways()]


def great_net(places, ways):
    names = ["p" + str(i) for i in range(places)]
    return Net([(name, Fraction(0)) for name in names], [Way("w" + str(i), "p0", "p1") for i in range(ways)])


class Turned(unittest.TestCase):
    def told(self, net, some, wants):
        kept = (look_of(net), list(some), [list(one.items()) for one in wants])
        told = turned(net, some, wants)
        self.assertIs(type(told), Net)
        self.assertEqual((look_of(net), some, [list(one.items()) for one in wants]), kept)
        return told

    def test_no_turns(self):
        told = self.told(NET, stores(), [])
        self.assertEqual((told.names(), told.all_ways()), ([], []))
        told = self.told(net_of(""), [], [{}, {}])
        self.assertEqual((told.names(), told.all_ways()), ([], []))

    def test_one_turn(self):
        told = self.told(NET, stores(), [{}])
        self.assertEqual(look_of(told)[0], [("a.1", "-1"), ("b.1", "2")])
        self.assertEqual(name_look(told), [("w.1", "a.1", "b.1"), ("v.1", "b.1", "a.1")])

    def test_several_turns(self):
        told = self.told(NET, stores(), [{}, {"a": num("7/2")}, {"b": num("0"), "a": num("-5")}])
        self.assertEqual(look_of(told)[0], [("a.1", "-1"), ("b.1", "2"), ("a.2", "7/2"), ("b.2", "2"),
                                            ("a.3", "-5"), ("b.3", "0")])
        self.assertEqual(name_look(told), [
            ("w.1", "a.1", "b.1"), ("v.1", "b.1", "a.1"), ("s.1", "a.1", "a.2"), ("r.1", "b.1", "b.2"),
            ("w.2", "a.2", "b.2"), ("v.2", "b.2", "a.2"), ("s.2", "a.2", "a.3"), ("r.2", "b.2", "b.3"),
            ("w.3", "a.3", "b.3"), ("v.3", "b.3", "a.3")])

    def test_kinds_and_numbers_of_the_ways(self):
        ways = [Way("w", "a", "b", num("1"), num("2")), Growing("v", "a", "b", num("3"), None, num("-1")),
                Leaking("u", "b", "a", num("1/4"), num("0"))]
        net = Net([("a", Fraction(0)), ("b", Fraction(0))], ways)
        told = turned(net=net, stores=stores(), wants=[{}, {}]).all_ways()
        self.assertEqual([type(way) for way in told], [Way, Growing, Leaking, Leaking, Leaking, Way, Growing, Leaking])
        look = [(way.high and way.high.shown(), way.cost.shown(), str(plain_gain(way))) for way in told]
        own = [("1", "2", "1"), (None, "-1", "3"), ("0", "0", "3/4")]
        self.assertEqual(look, own + [("3", "1/7", "1/2"), (None, "0", "1")] + own)

    def test_no_stores(self):
        told = self.told(NET, [], [{}, {}])
        self.assertEqual([name[0] for name in name_look(told)], ["w.1", "v.1", "w.2", "v.2"])

    def test_ten_turns(self):
        told = self.told(net_of("a 1"), [Store("a", "a", Fraction(0))], [{}] * 11)
        self.assertEqual(told.names(), ["a." + str(turn) for turn in range(1, 12)])
        self.assertEqual(name_look(told)[8:], [("a.9", "a.9", "a.10"), ("a.10", "a.10", "a.11")])

    # Names that could be taken for those of a turn.
    def test_names_with_points(self):
        net = Net([("a", num("1")), ("a.1", num("2"))], [Way("w", "a", "a.1"), Way("w.1", "a.1", "a")])
        told = self.told(net, [Store("w.1.1", "a.1", Fraction(0))], [{"a.1": num("3")}, {}])
        self.assertEqual(look_of(told)[0], [("a.1", "1"), ("a.1.1", "3"), ("a.2", "1"), ("a.1.2", "2")])
        self.assertEqual([name[0] for name in name_look(told)], ["w.1", "w.1.1", "w.1.1.1", "w.2", "w.1.2"])

    def test_a_turned_net_is_turned_again(self):
        once = self.told(net_of("a 1, b", "w a b"), [Store("s", "a", LONG)], [{}, {}])
        twice = self.told(once, [Store("s", "b.2", LONG)], [{}, {"a.2": num("5")}])
        self.assertEqual(twice.want("a.2.2").shown(), "5")
        self.assertEqual(twice.way("s.1.2").goal, "a.2.2")
        self.assertEqual((twice.way("s.1").start, twice.way("s.1").goal), ("b.2.1", "b.2.2"))

    def test_what_is_changed_behind_changes_nothing(self):
        some, wants = stores(), [{"a": num("3")}, {}]
        told = turned(NET, some, wants)
        before = look_of(told)
        some.clear()
        wants[0]["a"] = num("77")
        wants.pop()
        self.assertEqual(look_of(told), before)

    def test_just_as_many_as_a_net_takes(self):
        self.assertEqual(len(turned(great_net(4, 8), [], [{}] * 3).names()), 12)
        self.assertEqual(len(turned(great_net(4, 8), [], [{}] * 3).all_ways()), 24)
        self.assertEqual(len(turned(great_net(2, 3), [Store("s" + str(i), "p0", LONG) for i in range(3)],
                                    [{}] * 4).all_ways()), 21)
        self.assertEqual(len(turned(great_net(2, 11), [Store("s" + str(i), "p0", LONG) for i in range(2)],
                                    [{}] * 2).all_ways()), 24)


class Refusals(unittest.TestCase):
    def refused(self, kind, net, some, wants, told=None):
        asking = [lambda: turned(net, some, wants), lambda: by_turns(net, some, wants, {}),
                  lambda: by_turns(net, some, wants, plan_of("nowhere 1"))]
        for ask in asking:
            with self.assertRaises(GainError) as caught:
                ask()
            self.assertIs(type(caught.exception), kind)
            if kind is Twice:
                self.assertEqual(caught.exception.name, told)
            if kind is NoPlace:
                self.assertEqual(caught.exception.place, told)

    def test_a_store_with_the_name_of_a_way(self):
        self.refused(Twice, NET, [Store("s", "a", LONG), Store("w", "a", LONG)], [{}], "w")

    def test_two_stores_with_one_name(self):
        self.refused(Twice, NET, [Store("s", "a", LONG), Store("s", "b", LONG)], [{}], "s")

    def test_a_store_at_no_place(self):
        self.refused(NoPlace, NET, [Store("s", "a", LONG), Store("r", "x", LONG)], [{}], "x")

    def test_the_name_comes_ahead_of_the_place(self):
        self.refused(Twice, NET, [Store("w", "x", LONG)], [{}], "w")

    def test_the_first_store_with_a_fault(self):
        self.refused(NoPlace, NET, [Store("s", "x", LONG), Store("w", "a", LONG)], [{}], "x")
        self.refused(Twice, NET, [Store("w", "a", LONG), Store("s", "x", LONG)], [{}], "w")

    def test_stores_are_looked_at_without_turns_too(self):
        self.refused(Twice, NET, [Store("w", "a", LONG)], [], "w")
        self.refused(NoPlace, NET, [Store("s", "x", LONG)], [], "x")

    def test_wants_of_what_is_no_place(self):
        self.refused(NoPlace, NET, stores(), [{"x": LONG}], "x")
        self.refused(NoPlace, NET, stores(), [{"a": LONG}, {"b": LONG, "y": LONG, "x": LONG}, {"z": LONG}], "y")
        self.refused(NoPlace, NET, stores(), [{"a.1": LONG}], "a.1")
        self.refused(NoPlace, NET, stores(), [{"w": LONG}], "w")

    def test_stores_come_ahead_of_wants(self):
        self.refused(NoPlace, NET, [Store("s", "y", LONG)], [{"x": LONG}], "y")
        self.refused(Twice, NET, [Store("w", "y", LONG)], [{"x": LONG}], "w")

    def test_too_many_places(self):
        self.refused(TooMany, net_of("a"), [], [{}] * 13)
        self.refused(TooMany, great_net(5, 0), [], [{}] * 3)
        self.refused(TooMany, great_net(12, 24), [], [{}] * 2)

    def test_too_many_ways(self):
        self.refused(TooMany, great_net(2, 9), [], [{}] * 3)
        self.refused(TooMany, great_net(2, 11), [Store("s" + str(i), "p0", LONG) for i in range(3)], [{}] * 2)
        self.refused(TooMany, great_net(2, 0), [Store("s" + str(i), "p0", LONG) for i in range(25)], [{}] * 2)

    def test_too_many_comes_last(self):
        self.refused(NoPlace, net_of("a"), [], [{}] * 12 + [{"x": LONG}], "x")
        self.refused(NoPlace, net_of("a"), [Store("s", "x", LONG)], [{}] * 13, "x")
        self.refused(Twice, great_net(2, 9), [Store("w3", "p0", LONG)], [{}] * 13, "w3")

    def test_two_hundred_turns(self):
        self.refused(TooMany, great_net(12, 24), [], [{}] * 200)


class ByTurns(unittest.TestCase):
    def told(self, net, some, wants, plan):
        kept = (look_of(net), list(some), [list(one.items()) for one in wants], list(plan.items()))
        told = by_turns(net, some, wants, plan)
        self.assertEqual((look_of(net), some, [list(one.items()) for one in wants], list(plan.items())), kept)
        self.assertIs(type(told), list)
        for one in told:
            self.assertIs(type(one), tuple)
            self.assertEqual([type(part) for part in one], [dict, dict, dict])
        return [tuple(shown(part) for part in one) for one in told]

    def test_plainly(self):
        plan = plan_of("w.1 3, s.1 2, r.1 5, v.2 1/2, s.2 4, w.3 1")
        self.assertEqual(self.told(NET, stores(), [{}, {}, {}], plan), [
            ({"w": "3"}, {"a": "0", "b": "0"}, {"a": "2", "b": "5"}),
            ({"v": "1/2"}, {"a": "1", "b": "5"}, {"a": "4", "b": "0"}),
            ({"w": "1"}, {"a": "2", "b": "0"}, {"a": "0", "b": "0"}),
        ])

    def test_the_empty_plan(self):
        nothing = ({}, {"a": "0", "b": "0"}, {"a": "0", "b": "0"})
        self.assertEqual(self.told(NET, stores(), [{}, {}], {}), [nothing, nothing])
        self.assertEqual(by_turns(net=NET, stores=[], wants=[], plan={}), [])

    def test_no_places(self):
        self.assertEqual(self.told(net_of(""), [], [{}, {}], {}), [({}, {}, {}), ({}, {}, {})])

    def test_several_stores_at_one_place(self):
        some = stores() + [Store("q", "a", num("0")), Store("p", "a", num("3/4"))]
        plan = plan_of("s.1 2, q.1 3, p.1 4, r.1 1")
        self.assertEqual(self.told(NET, some, [{}, {}], plan), [
            ({}, {"a": "0", "b": "0"}, {"a": "9", "b": "1"}),
            ({}, {"a": "5", "b": "1"}, {"a": "0", "b": "0"}),
        ])

    def test_amounts_of_any_sign_and_nought(self):
        plan = plan_of("w.1 -3, v.1 0, s.1 -2, r.1 0, w.2 1000")
        self.assertEqual(self.told(NET, stores(), [{}, {}], plan), [
            ({"w": "-3"}, {"a": "0", "b": "0"}, {"a": "-2", "b": "0"}),
            ({"w": "1000"}, {"a": "-1", "b": "0"}, {"a": "0", "b": "0"}),
        ])

    def test_a_store_with_the_name_of_a_place(self):
        told = self.told(net_of("a, b", "b a b"), [Store("a", "a", num("1/2"))], [{}, {}], plan_of("a.1 2, b.2 1"))
        self.assertEqual(told, [({}, {"a": "0", "b": "0"}, {"a": "2", "b": "0"}),
                                ({"b": "1"}, {"a": "1", "b": "0"}, {"a": "0", "b": "0"})])

    def test_names_that_are_no_ways_of_the_turned_net(self):
        for text, name in [("w 1", "w"), ("w.1 1, x.1 1, w.0 1", "x.1"), ("w.3 0", "w.3"), ("s.2 1, x 1", "s.2"),
                           ("s.0 1", "s.0"), ("a.1 1", "a.1"), ("w.01 1", "w.01"), ("r.2 0, s.2 0", "r.2")]:
            with self.assertRaises(NoWay) as caught:
                by_turns(NET, stores(), [{}, {}], plan_of(text))
            self.assertEqual(caught.exception.name, name)
        with self.assertRaises(NoWay):
            by_turns(NET, stores(), [], plan_of("w.1 1"))

    def test_what_is_told_is_the_askers_own(self):
        plan = plan_of("w.1 3, s.1 2")
        told = by_turns(NET, stores(), [{}, {}], plan)
        plan["w.1"] = LONG
        self.assertEqual(shown(told[0][0]), {"w": "3"})
        parts = [part for one in told for part in one]
        self.assertEqual(len(set([id(part) for part in parts])), 6)
        for part in parts:
            part.clear()
        self.assertEqual(shown(by_turns(NET, stores(), [{}, {}], plan_of("w.1 3"))[0][0]), {"w": "3"})

    # At each place in each turn: the plan's sum, with what is taken, less what is put.
    def sums_agree(self, net, some, wants, plan):
        whole = plain_sums(turned(net, some, wants), plains(plan))
        for turn, (own, taken, put) in enumerate(by_turns(net, some, wants, plan), start=1):
            self.assertEqual(set(taken), set(net.names()))
            self.assertEqual(set(put), set(net.names()))
            self.assertTrue(all(part.sign() != 0 for part in own.values()))
            come = plain_sums(net, plains(own))
            for place in net.names():
                told = come[place] + plain(taken[place]) - plain(put[place])
                self.assertEqual(told, whole[place + "." + str(turn)])

    def test_by_chance(self):
        for chance in chances(60):
            net = chance_net(chance, chance.randint(1, 3), chance.randint(0, 4))
            some = [Store(name, chance.choice(net.names()), Fraction(chance.randint(0, 3), 4)) for name in "sr"]
            wants = [{name: small_number(chance, -4, 4) for name in net.names() if chance.random() < 0.5}
                     for turn in range(chance.randint(1, 4))]
            names = [way.name for way in turned(net, some, wants).all_ways()]
            plan = {name: small_number(chance, -3, 5) for name in names if chance.random() < 0.8}
            self.sums_agree(net, some, wants, plan)

    def test_many_figures(self):
        chance = chances(1)[0]
        plan = {name: long_number(chance) for name in ["w.1", "v.1", "s.1", "r.1", "w.2", "v.2"]}
        self.sums_agree(NET, [Store("s", "a", LONG), Store("r", "b", LONG)], [{}, {}], plan)

    # Corn is there in the first turn alone, and bread is wanted in each.
    def test_the_cheapest_plan_of_turns(self):
        net = net_of("corn, bread 1", "bake corn bread 1/2 - 1")
        some = [Store("barn", "corn", num("1/3"), None, num("1/10"))]
        wants = [{"corn": num("-11")}, {}, {}]
        whole = turned(net, some, wants)
        word, plan, prices, bounds = cheapest(whole)
        self.assertEqual(word, "plan")
        self.assertEqual(checked(whole, plan).shown(), "141/20")
        told = by_turns(net, some, wants, plan)
        self.assertEqual([shown(one[0]) for one in told], [{"bake": "2"}] * 3)
        self.assertEqual([one[1]["corn"].shown() for one in told], ["0", "5", "2"])
        self.assertEqual([one[2]["corn"].shown() for one in told], ["15/2", "3", "0"])
        self.assertEqual(cheapest(turned(net, some, [{"corn": num("-9")}, {}, {}]))[0], "lack")


if __name__ == "__main__":
    unittest.main()
