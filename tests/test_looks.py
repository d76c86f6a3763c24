"""Point 32, with what points 30 and 31 tell of answers."""

import unittest

from gainstream.cheapest import cheapest
from gainstream.errors import NoPlace
from gainstream.fractions import Fraction
from gainstream.looks import shows, shows_most
from gainstream.most import most

from helper import LONG, chance_net, chances, long_net, look_of_answer, looked_cheapest, looked_most, net_of, num, \
    odd_nets, plan_of, small_number

# Room for one fault at a time: c wants nothing and is of use to nobody, u costs nothing, t has no room.
NET = net_of("a -10, b 10, c", "w a b 2 4 1, v a b 1 - 3, u b a, t a c 1 0 9")
PLAN = "w 4, v 2"
PRICES = "b 3"
BOUNDS = "w 5"

SHORT = net_of("a -1, b 3, c", "w a b 2 1, v a c 1 0")

ENDLESS = net_of("a 0, b -5, c -5", "w a b 2 - 1, v b a 1 - -3, u a c 1, t a b 2 9 1, s c b 1 - 1, r b c 1/2 8, "
                                    "q b c 1/2 - -1")


class Asking(unittest.TestCase):
    def stays(self, answer, ask):
        before = look_of_answer(answer)
        told = ask(answer)
        self.assertEqual(look_of_answer(answer), before)
        self.assertIs(type(told), bool)
        return told


class Plans(Asking):
    def told(self, plan=PLAN, prices=PRICES, bounds=BOUNDS, net=NET):
        answer = ("plan", plan_of(plan), plan_of(prices), plan_of(bounds))
        return self.stays(answer, lambda one: shows(net, one))

    def test_it_shows(self):
        self.assertTrue(self.told())
        self.assertTrue(self.told(prices="a 0, b 3, c 0", bounds="w 5, t 0"))

    def test_names_of_the_arguments(self):
        self.assertTrue(shows(net=NET, answer=("plan", plan_of(PLAN), plan_of(PRICES), plan_of(BOUNDS))))

    def test_amounts_of_nought(self):
        self.assertTrue(self.told("w 4, v 2, u 0, t 0"))

    def test_an_amount_above_its_high(self):
        self.assertFalse(self.told("w 5, v 5/3"))

    def test_an_amount_under_nought(self):
        self.assertFalse(self.told("w 4, v 2, u -1"))

    def test_a_name_that_is_no_way(self):
        for more in ["x 1", "x 0", "x -1", "a 0"]:
            self.assertFalse(self.told(PLAN + ", " + more))

    def test_a_want_that_is_not_met(self):
        self.assertFalse(self.told("w 1, v 3"))
        self.assertFalse(self.told("w 4, v 2, u 1/9"))

    def test_more_than_may_be_taken(self):
        net = net_of("a -10, b", "w a b, v b a 1/2")
        self.assertTrue(self.told("w 10", "", "", net))
        self.assertFalse(self.told("w 11", "", "", net))

    def test_a_price_under_nought(self):
        self.assertTrue(self.told(prices="b 3, c 1"))
        self.assertFalse(self.told(prices="b 3, c -1"))

    def test_a_price_of_a_bound_under_nought(self):
        self.assertTrue(self.told(bounds="w 5, t 1"))
        self.assertFalse(self.told(bounds="w 5, t -1"))

    def test_a_price_for_what_is_no_place(self):
        for more in ["x 0", "x 1", "w 0"]:
            self.assertFalse(self.told(prices=PRICES + ", " + more))

    def test_a_price_for_what_has_no_high(self):
        for more in ["v 0", "v 1", "x 0", "a 0"]:
            self.assertFalse(self.told(bounds=BOUNDS + ", " + more))

    def test_a_way_that_earns_too_much(self):
        self.assertFalse(self.told(prices="a 2/5, b 3", bounds="w 4"))

    def test_a_way_without_a_high_that_earns_too_much(self):
        self.assertFalse(self.told(prices="b 31/10", bounds="w 21/4"))

    def test_a_way_to_an_end_that_earns_too_much(self):
        self.assertTrue(self.told(prices="b 3, c 9"))
        self.assertFalse(self.told(prices="b 3, c 91/10"))
        self.assertTrue(self.told(prices="b 3, c 91/10", bounds="w 5, t 1/10"))

    def test_a_worth_that_is_not_come_to(self):
        self.assertFalse(self.told(prices="", bounds=""))
        self.assertFalse(self.told(prices="b 3", bounds="w 6"))
        self.assertFalse(self.told("w 4, v 3"))
        self.assertFalse(self.told("v 10"))

    def test_what_is_not_named_counts_as_nought(self):
        net = net_of("a -10, b", "w a b 2 4 1")
        self.assertTrue(self.told("", "", "", net))
        self.assertTrue(self.told("", "a 0", "w 0", net))
        self.assertTrue(self.told("", "", "", net_of("")))
        self.assertFalse(self.told("w 4, v 2", "", "w 5"))
        self.assertFalse(self.told("w 4, v 2", "b 3", ""))


class Lacks(Asking):
    def told(self, weights="a 2, b 1", bounds="", net=SHORT):
        answer = ("lack", plan_of(weights), plan_of(bounds))
        one = self.stays(answer, lambda one: shows(net, one))
        for place in net.names():
            self.assertIs(shows_most(net, place, answer), one)
        return one

    def test_it_shows(self):
        self.assertTrue(self.told())
        self.assertTrue(self.told("a 2, b 1, c 0", "w 0, v 0"))
        self.assertTrue(self.told("b 1", "w 2"))
        self.assertTrue(self.told("a 2, b 1, c 1"))

    def test_something_under_nought(self):
        self.assertFalse(self.told("a 2, b 1, c -1"))
        self.assertFalse(self.told("a 2, b 1", "v -1"))
        self.assertTrue(self.told("a 2, b 1", "v 1"))

    def test_names_that_are_none(self):
        for weights, bounds in [("a 2, b 1, x 0", ""), ("a 2, b 1, w 0", ""), ("a 2, b 1", "x 0"), ("a 2, b 1", "a 0")]:
            self.assertFalse(self.told(weights, bounds))
        self.assertFalse(self.told("b 1", "w 0", net_of("b 1, a", "w a b 1")))
        self.assertFalse(self.told("a 1, b 1", "w 0", net_of("b 1, a", "w a b 1")))

    def test_a_way_that_earns_something(self):
        self.assertFalse(self.told("b 1"))
        self.assertFalse(self.told("a 19/10, b 1"))
        self.assertFalse(self.told("b 1", "w 19/10"))
        self.assertFalse(self.told("a 2, b 1, c 21/10"))
        self.assertTrue(self.told("a 2, b 1, c 21/10", "v 1/10"))

    def test_a_lack_that_weighs_nothing(self):
        self.assertFalse(self.told("", ""))
        self.assertFalse(self.told("a 3, b 1"))
        self.assertFalse(self.told("a 4, b 1"))
        self.assertFalse(self.told("b 1", "w 3"))
        self.assertFalse(self.told("a 2, b 1", "w 1"))

    # Costs are of no use against a lack.
    def test_costs_are_not_looked_at(self):
        net = net_of("a -1, b 3", "w a b 2 - 100")
        self.assertTrue(self.told("a 2, b 1", "", net))
        self.assertFalse(self.told("b 1", "", net))


class Endless(Asking):
    def told(self, head="w v", path="", tail="", amount="1", plan="", net=ENDLESS, place=None):
        answer = ("endless", plan_of(plan), (head.split(), path.split(), tail.split(), num(amount)))
        if place is not None:
            return self.stays(answer, lambda one: shows_most(net, place, one))
        return self.stays(answer, lambda one: shows(net, one))

    def test_it_shows(self):
        self.assertTrue(self.told())
        self.assertTrue(self.told("w v", "u", amount="1/9"))
        self.assertTrue(self.told(plan="u 0, s 5"))

    def test_a_plan_that_does_not_meet_the_net(self):
        for plan in ["u 6", "s 6", "x 0", "w -1", "t 10"]:
            self.assertFalse(self.told(plan=plan))
            self.assertFalse(self.told(plan=plan, place="a"))

    def test_what_is_no_strand(self):
        for head, path, tail, amount in [("w v", "", "", "0"), ("w v", "", "", "-1"), ("w", "", "", "1"),
                                         ("x", "", "", "1"), ("w v", "x", "", "1"), ("w v", "", "x", "1"),
                                         ("w v w v", "", "", "1"), ("v w", "u", "", "1"), ("w v", "", "w v", "1"),
                                         ("w v", "w v", "", "1"), ("", "", "", "1"), ("w w", "", "", "1")]:
            self.assertFalse(self.told(head, path, tail, amount))
            self.assertFalse(self.told(head, path, tail, amount, place="a"))

    def test_a_head_that_is_empty(self):
        self.assertFalse(self.told("", "v"))
        self.assertFalse(self.told("", "v", place="a"))

    def test_a_way_with_a_high(self):
        self.assertFalse(self.told("t v"))
        self.assertFalse(self.told("t v", place="a"))
        self.assertTrue(self.told("w v", "w q"))
        self.assertFalse(self.told("w v", "w r"))
        self.assertFalse(self.told("w v", "w r", place="c"))
        self.assertTrue(self.told("w v", "w q", place="c"))

    def test_a_tail_with_a_high(self):
        self.assertTrue(self.told("v w", "", "q s"))
        self.assertFalse(self.told("v w", "", "r s"))

    def test_rounds(self):
        net = net_of("a, b", "w a b 2 - 1, v b a 1/2 - -2/3")
        self.assertTrue(self.told("w v", net=net))
        self.assertFalse(self.told("w v", net=net, place="a"))

    def test_a_strand_that_costs_nothing_or_more(self):
        for cost, wanted in [("-1", True), ("-1/2", False), ("-1/3", False), ("1", False)]:
            net = net_of("a, b", "w a b 2 - 1, v b a 1 - " + cost)
            self.assertIs(self.told("w v", net=net), wanted)
            self.assertTrue(self.told("w v", net=net, place="a"))

    def test_a_strand_that_brings_nothing_to_the_place(self):
        self.assertTrue(self.told("w v", place="a"))
        self.assertFalse(self.told("w v", place="b"))
        self.assertFalse(self.told("w v", place="c"))
        self.assertTrue(self.told("w v", "u", place="c"))
        self.assertFalse(self.told("w v", "u", place="a"))
        self.assertFalse(self.told("v w", "", "q s", place="b"))
        self.assertTrue(self.told("v w", place="b"))


class Mosts(Asking):
    # The most that comes to b is 8 by w and 6 by v.
    def told(self, amount="14", plan="w 4, v 6", prices="", bounds="w 1", net=NET, place="b"):
        answer = ("most", num(amount), plan_of(plan), plan_of(prices), plan_of(bounds))
        return self.stays(answer, lambda one: shows_most(net, place, one))

    def test_it_shows(self):
        self.assertTrue(self.told(prices="a 1"))
        self.assertTrue(self.told(prices="a 1, b 0, c 0", bounds="w 1, t 0"))
        self.assertTrue(self.told(prices="a 1", plan="w 4, v 6, u 0"))

    def test_an_amount_out_of_its_bounds(self):
        self.assertFalse(self.told(prices="a 1", plan="w 5, v 4"))
        self.assertFalse(self.told(prices="a 1", plan="w 4, v 5, u -1"))

    def test_a_name_that_is_no_way(self):
        for more in ["x 0", "x 1", "a 0"]:
            self.assertFalse(self.told(prices="a 1", plan="w 4, v 6, " + more))

    def test_a_want_that_is_not_met(self):
        self.assertFalse(self.told(prices="a 1", net=net_of("a -9, b 10, c", "w a b 2 4 1, v a b 1 - 3"),
                                   bounds="w 5/4"))
        net = net_of("a -10, b, c 1", "w a b 2 4, v a b 1, u b c")
        self.assertFalse(self.told("14", "w 4, v 6", "a 1", "w 1", net))

    def test_another_amount(self):
        self.assertFalse(self.told("13", prices="a 1"))
        self.assertFalse(self.told("15", prices="a 1"))
        self.assertFalse(self.told("13", plan="w 4, v 5", prices="a 1"))
        self.assertFalse(self.told("14", plan="w 4, v 5", prices="a 1"))

    def test_something_under_nought(self):
        self.assertTrue(self.told(prices="a 1, c 1"))
        self.assertFalse(self.told(prices="a 1, c -1"))
        self.assertFalse(self.told(prices="a 1", bounds="w 1, t -1"))
        self.assertTrue(self.told(prices="a 1", bounds="w 1, t 1"))

    def test_names_that_are_none(self):
        for more in ["x 0", "w 0"]:
            self.assertFalse(self.told(prices="a 1, " + more))
        for more in ["v 0", "x 0", "a 0"]:
            self.assertFalse(self.told(prices="a 1", bounds="w 1, " + more))

    def test_a_way_that_earns_something(self):
        self.assertFalse(self.told(prices="a 6/5", bounds="w 1/2"))
        self.assertFalse(self.told(prices="a 4/5", bounds="w 3/2"))
        self.assertFalse(self.told(prices="a 1, c 11/10"))

    def test_the_asked_place_counts_one_more(self):
        net = net_of("a -10, b, c", "w a b 1, v b c 1, u c b 1")
        self.assertTrue(self.told("10", "w 10", "a 1, c 1", "", net))
        self.assertFalse(self.told("10", "w 10", "a 1, b 1, c 1", "", net))
        self.assertFalse(self.told("10", "w 10", "a 1", "", net))
        self.assertTrue(self.told("10", "w 10, v 10", "a 1, b 1", "", net, "c"))

    def test_a_price_of_the_asked_place_itself(self):
        net = net_of("a -10, b 4", "w a b 1 4")
        self.assertTrue(self.told("4", "w 4", "", "w 1", net))
        self.assertTrue(self.told("4", "w 4", "b 1", "w 2", net))
        self.assertFalse(self.told("4", "w 4", "b 1", "w 1", net))

    def test_names_that_are_no_places(self):
        answers = [("most", num("0"), {}, {}, {}), ("lack", {}, {}), ("endless", {}, ([], [], [], LONG))]
        for answer in answers:
            for name in ["x", "w"]:
                with self.assertRaises(NoPlace) as caught:
                    shows_most(NET, name, answer)
                self.assertEqual(caught.exception.place, name)
        self.assertTrue(shows_most(net=net_of("a"), place="a", answer=answers[0]))


class Answers(unittest.TestCase):
    def all_show(self, net):
        self.assertIs(shows(net, cheapest(net)), True)
        for place in net.names():
            self.assertIs(shows_most(net, place, most(net, place)), True)

    def test_odd_nets(self):
        for name, net in odd_nets().items():
            with self.subTest(name):
                self.all_show(net)

    def test_by_chance(self):
        for chance in chances(80):
            self.all_show(chance_net(chance, chance.randint(1, 6), chance.randint(0, 12), chance.choice([0, 0.4, 1])))
        for chance in chances(3):
            self.all_show(chance_net(chance, 12, 24, 0.4, (-4, 0)))

    def test_many_figures(self):
        for chance in chances(4):
            net = long_net(chance, highs=chance.choice([0.1, 1]))
            self.assertIs(shows(net, cheapest(net)), True)
            self.assertIs(shows_most(net, "p3", most(net, "p3")), True)

    # Something in an answer is changed a little: it is looked at as the sums by hand look at it.
    def changed(self, chance, one):
        if isinstance(one, dict) and one:
            name = chance.choice(sorted(one))
            other = dict(one)
            other[name] = one[name].plus(small_number(chance, -1, 1))
            return {name: number for name, number in other.items() if number.sign() != 0 or name[0] == "p"}
        if isinstance(one, tuple):
            walks = [list(walk[1:]) if walk and chance.random() < 0.3 else list(walk) for walk in one[:3]]
            return tuple(walks) + (one[3],)
        if isinstance(one, Fraction):
            return one.plus(small_number(chance, -1, 1))
        return one

    def filled(self, net, answer):
        highs = [way.name for way in net.all_ways() if way.high is not None]
        parts = list(answer)
        for k, names in [(-2, net.names()), (-1, highs)]:
            parts[k] = {name: parts[k].get(name, Fraction(0)) for name in names}
        return tuple(parts)

    def by_hand(self, net, answer, look):
        try:
            look(net, answer if answer[0] == "endless" else self.filled(net, answer))
        except AssertionError:
            return False
        return True

    def test_changed_answers(self):
        seen = []
        for chance in chances(300):
            net = chance_net(chance, chance.randint(1, 5), chance.randint(0, 8), chance.choice([0, 0.4, 1]))
            place = chance.choice(net.names())
            for answer, ask, look in [
                (cheapest(net), shows, looked_cheapest),
                (most(net, place), lambda one, two: shows_most(one, place, two),
                 lambda one, two: looked_most(one, place, two)),
            ]:
                for again in range(3):
                    parts = list(answer)
                    k = chance.randrange(1, len(parts))
                    parts[k] = self.changed(chance, parts[k])
                    told = ask(net, tuple(parts))
                    self.assertIs(told, self.by_hand(net, tuple(parts), look))
                    seen.append((answer[0], told))
        for word in ["plan", "most", "lack", "endless"]:
            self.assertTrue((word, True) in seen and (word, False) in seen)


if __name__ == "__main__":
    unittest.main()
