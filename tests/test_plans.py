"""Points 12 to 15, and what point 2 says of plans."""

import unittest

from gainstream.errors import GainError, NoWay, OverBound, Short
from gainstream.fractions import Fraction
from gainstream.plans import amount, checked, faults, scaled, sums, together, worth

from helper import LONG, chance_net, chances, long_net, long_number, net_of, num, plain, plain_sums, plain_worth, \
    plains, plan_of, shown, small_number

# a takes in, b holds, c wants.
NET = net_of("a -10, b, c 3", "w a b 2 4 1, v b c 1/2 - -3, u a c 1 5/2 1/3")


class Asking(unittest.TestCase):
    def refused(self, kind, ask, **fields):
        with self.assertRaises(GainError) as caught:
            ask()
        self.assertIs(type(caught.exception), kind)
        for field, value in fields.items():
            told = getattr(caught.exception, field)
            self.assertEqual(told if isinstance(told, str) else told.shown(), value)

    # Whatever is asked of a plan leaves it as it was.
    def stays(self, plan, ask):
        before = list(plan.items())
        told = ask(plan)
        self.assertEqual(list(plan.items()), before)
        self.assertTrue(all(one[1] is two[1] for one, two in zip(plan.items(), before)))
        return told


class Amounts(Asking):
    def test_amounts(self):
        plan = plan_of("w 1/2, v -3, u 0")
        self.assertEqual([amount(plan, name).shown() for name in ["w", "v", "u"]], ["1/2", "-3", "0"])
        self.assertEqual(amount(plan=plan, name="w").shown(), "1/2")

    def test_names_that_are_not_there(self):
        for name in ["x", "a", ""]:
            told = amount(plan_of("w 1"), name)
            self.assertIs(type(told), Fraction)
            self.assertEqual(told.shown(), "0")
        self.assertEqual(amount({}, "w").shown(), "0")

    def test_the_plan_stays(self):
        self.stays(plan_of("w 1"), lambda plan: amount(plan, "x"))


class Sums(Asking):
    def test_plainly(self):
        told = sums(NET, plan_of("w 3, v 4, u 1/2"))
        self.assertEqual(shown(told), {"a": "-7/2", "b": "2", "c": "5/2"})
        self.assertEqual(shown(sums(net=NET, plan=plan_of("w 1"))), {"a": "-1", "b": "2", "c": "0"})

    def test_of_the_empty_plan(self):
        self.assertEqual(shown(sums(NET, {})), {"a": "0", "b": "0", "c": "0"})
        self.assertEqual(sums(net_of(""), {}), {})

    def test_either_sign_and_nought(self):
        self.assertEqual(shown(sums(NET, plan_of("w -3, v 0"))), {"a": "3", "b": "-6", "c": "0"})
        self.assertEqual(shown(sums(NET, plan_of("w 0, v 0, u 0"))), {"a": "0", "b": "0", "c": "0"})

    # Bounds and wants are not looked at.
    def test_beyond_the_bounds(self):
        self.assertEqual(sums(NET, plan_of("w 1000"))["b"].shown(), "2000")

    def test_goods_that_go_round(self):
        net = net_of("a, b", "w a b 2, v b a 2")
        self.assertEqual(shown(sums(net, plan_of("w 1, v 2"))), {"a": "3", "b": "0"})

    def test_a_place_and_a_way_of_the_same_name(self):
        net = net_of("a, b", "a a b 3, b a b 2")
        self.assertEqual(shown(sums(net, plan_of("a 1, b 1"))), {"a": "-2", "b": "5"})

    def test_worth_plainly(self):
        self.assertEqual(worth(NET, plan_of("w 3, v 4, u 1/2")).shown(), "-53/6")
        self.assertEqual(worth(net=NET, plan=plan_of("w -3")).shown(), "-3")
        self.assertEqual(worth(NET, {}).shown(), "0")
        self.assertEqual(worth(NET, plan_of("v 0")).shown(), "0")

    def test_names_that_are_no_ways(self):
        for ask in [sums, worth]:
            self.refused(NoWay, lambda: ask(NET, plan_of("w 1, x 1, y 1")), name="x")
            self.refused(NoWay, lambda: ask(NET, plan_of("y 1, x 1, w 1")), name="y")
            self.refused(NoWay, lambda: ask(NET, plan_of("w 1, a 0")), name="a")
            self.refused(NoWay, lambda: ask(net_of(""), plan_of("w 0")), name="w")

    def test_by_chance(self):
        for chance in chances(40):
            net = chance_net(chance, chance.randint(2, 6), chance.randint(0, 12))
            plan = {way.name: small_number(chance, -5, 5) for way in net.all_ways() if chance.random() < 0.7}
            self.assertEqual(plains(self.stays(plan, lambda one: sums(net, one))), plain_sums(net, plains(plan)))
            self.assertEqual(plain(self.stays(plan, lambda one: worth(net, one))), plain_worth(net, plains(plan)))

    def test_many_figures(self):
        for chance in chances(3):
            net = long_net(chance)
            plan = {way.name: long_number(chance) for way in net.all_ways()}
            self.assertEqual(plains(sums(net, plan)), plain_sums(net, plains(plan)))
            self.assertEqual(plain(worth(net, plan)), plain_worth(net, plains(plan)))

    def test_the_told_dict_is_the_askers_own(self):
        told = sums(NET, {})
        told["a"] = LONG
        told.pop("b")
        self.assertEqual(shown(sums(NET, {})), {"a": "0", "b": "0", "c": "0"})


class Faults(Asking):
    def told(self, plan, net=NET):
        found = self.stays(plan, lambda one: faults(net, one))
        self.assertIs(type(found), list)
        for fault in found:
            self.assertIs(type(fault), tuple)
        return found

    def test_none(self):
        self.assertEqual(self.told(plan_of("w 3, v 6")), [])
        self.assertEqual(self.told({}, net_of("")), [])
        self.assertEqual(self.told({}, net_of("a, b -1")), [])

    def test_names_that_are_no_ways(self):
        plan = plan_of("y 1, w 3, x 0, v 6, a -1")
        self.assertEqual(self.told(plan), [("way", "y"), ("way", "x"), ("way", "a")])

    def test_bounds(self):
        plan = plan_of("u 3, w 9/2, v 9")
        self.assertEqual(self.told(plan), [("bound", "w"), ("bound", "u")])
        self.assertEqual(self.told(plan_of("u 5/2, v -1/9, w 2")), [("bound", "v"), ("place", "c")])
        self.assertEqual(self.told(plan_of("w 2, v 4, u -1")), [("bound", "u"), ("place", "c")])

    def test_just_the_high_and_just_nought(self):
        self.assertEqual(self.told(plan_of("w 4, u 5/2, v 8")), [])
        self.assertEqual(self.told(plan_of("w 4, u 0, v 8")), [])

    def test_a_high_of_nought(self):
        net = net_of("a, b", "w a b 1 0")
        self.assertEqual(self.told({}, net), [])
        self.assertEqual(self.told(plan_of("w 0"), net), [])
        self.assertEqual(self.told(plan_of("w 1/9"), net), [("bound", "w"), ("place", "a")])

    def test_places(self):
        self.assertEqual(self.told({}), [("place", "c")])
        self.assertEqual(self.told(plan_of("v 1")), [("place", "b"), ("place", "c")])
        self.assertEqual(self.told(plan_of("w 4, u 2, v 7")), [])

    def test_just_the_want(self):
        net = net_of("a -2, b 4", "w a b 2")
        self.assertEqual(self.told(plan_of("w 2"), net), [])
        self.assertEqual(self.told(plan_of("w 2000000001/1000000000"), net), [("place", "a")])
        self.assertEqual(self.told(plan_of("w 1999999999/1000000000"), net), [("place", "b")])

    def test_all_three_at_once(self):
        plan = plan_of("x 1, w 5, v 12, z -1, u -1")
        wanted = [("way", "x"), ("way", "z"), ("bound", "w"), ("bound", "u"), ("place", "b")]
        self.assertEqual(self.told(plan), wanted)

    def test_sums_are_of_the_nets_own_ways_alone(self):
        plan = plan_of("a 100, b 100, c 100, x 100")
        wanted = [("way", "a"), ("way", "b"), ("way", "c"), ("way", "x"), ("place", "c")]
        self.assertEqual(self.told(plan), wanted)

    def test_by_names_of_the_arguments(self):
        self.assertEqual(faults(net=NET, plan={}), [("place", "c")])

    def test_by_chance(self):
        for chance in chances(60):
            net = chance_net(chance, chance.randint(2, 5), chance.randint(1, 8))
            plan = {way.name: small_number(chance, -1, 5) for way in net.all_ways() if chance.random() < 0.8}
            come = plain_sums(net, plains(plan))
            wanted = []
            for way in net.all_ways():
                part = plain(plan.get(way.name, Fraction(0)))
                if part < 0 or way.high is not None and part > plain(way.high):
                    wanted.append(("bound", way.name))
            wanted.extend([("place", name) for name in net.names() if come[name] < plain(net.want(name))])
            self.assertEqual(self.told(plan, net), wanted)
            if wanted == []:
                self.assertEqual(plain(checked(net, plan)), plain_worth(net, plains(plan)))
            else:
                self.refused(OverBound if wanted[0][0] == "bound" else Short, lambda: checked(net, plan))


class Checked(Asking):
    def test_the_worth(self):
        plan = plan_of("w 3, v 6, u 0")
        self.assertEqual(self.stays(plan, lambda one: checked(NET, one)).shown(), "-15")
        self.assertEqual(checked(net=net_of(""), plan={}).shown(), "0")

    def test_a_name_that_is_no_way(self):
        self.refused(NoWay, lambda: checked(NET, plan_of("w 99, y 1, x 1")), name="y")
        self.refused(NoWay, lambda: checked(NET, plan_of("w 3, v 6, a 0")), name="a")

    def test_a_bound(self):
        self.refused(OverBound, lambda: checked(NET, plan_of("u -1, w 9/2")), name="w", bound="4")
        self.refused(OverBound, lambda: checked(NET, plan_of("u 3, w -1/9")), name="w", bound="0")
        self.refused(OverBound, lambda: checked(NET, plan_of("u 3")), name="u", bound="5/2")
        self.refused(OverBound, lambda: checked(NET, plan_of("v -1")), name="v", bound="0")

    def test_a_high_of_nought(self):
        net = net_of("a, b", "w a b 1 0")
        self.refused(OverBound, lambda: checked(net, plan_of("w 1")), name="w", bound="0")

    def test_a_place(self):
        self.refused(Short, lambda: checked(NET, plan_of("w 1/3")), place="c", lacking="3")
        self.refused(Short, lambda: checked(NET, plan_of("v 1")), place="b", lacking="1")
        self.refused(Short, lambda: checked(NET, plan_of("w 1, v 2, u 1")), place="c", lacking="1")
        net = net_of("a -2, b", "w a b")
        self.refused(Short, lambda: checked(net, plan_of("w 5/2")), place="a", lacking="1/2")

    def test_the_plan_stays_where_it_is_refused(self):
        for plan, kind in [(plan_of("y 1"), NoWay), (plan_of("w 9"), OverBound), (plan_of("w 0"), Short)]:
            self.stays(plan, lambda one: self.refused(kind, lambda: checked(NET, one)))

    def test_numbers_too_long_for_a_text(self):
        long = Fraction(3 ** 12000, 2 ** 12000)
        with self.assertRaises(OverBound):
            checked(NET, {"w": long})
        net = net_of("a, b", "w a b").wanting({"b": long})
        with self.assertRaises(Short) as caught:
            checked(net, {})
        self.assertTrue(caught.exception.lacking.same(long))


class Together(Asking):
    def added(self, one, other):
        left, right = plan_of(one), plan_of(other)
        told = self.stays(left, lambda plan: self.stays(right, lambda plan_too: together(plan, plan_too)))
        self.assertIsNot(told, left)
        self.assertIsNot(told, right)
        return shown(told)

    def test_plainly(self):
        self.assertEqual(self.added("w 1, v 2", "v 1/2, u -3"), {"w": "1", "v": "5/2", "u": "-3"})

    def test_amounts_that_come_to_nought(self):
        self.assertEqual(self.added("w 1, v 2", "v -2, u 0"), {"w": "1"})
        self.assertEqual(self.added("w 0, v 2", "v -2"), {})
        self.assertEqual(self.added("w 0", ""), {})
        self.assertEqual(self.added("", "w 0"), {})

    def test_empty_plans(self):
        self.assertEqual(self.added("", ""), {})
        self.assertEqual(self.added("w 1", ""), {"w": "1"})
        self.assertEqual(self.added("", "w -1"), {"w": "-1"})

    def test_one_with_itself(self):
        plan = plan_of("w 1, v -1/2")
        self.assertEqual(shown(together(plan, plan)), {"w": "2", "v": "-1"})
        self.assertEqual(shown(plan), {"w": "1", "v": "-1/2"})

    def test_changed_behind(self):
        one, other = plan_of("w 1"), {}
        told = together(one=one, other=other)
        one["w"] = Fraction(5)
        one["v"] = Fraction(5)
        self.assertEqual(shown(told), {"w": "1"})
        told["x"] = Fraction(1)
        self.assertEqual((list(one), other), (["w", "v"], {}))

    def test_many_figures(self):
        chance = chances(1)[0]
        one = {str(i): long_number(chance) for i in range(200)}
        other = {str(i): long_number(chance) for i in range(100, 300)}
        told = plains(together(one, other))
        for name in told:
            wanted = plain(one.get(name, Fraction(0))) + plain(other.get(name, Fraction(0)))
            self.assertEqual(told[name], wanted)
        self.assertEqual(len(told), 300)

    def scaled(self, plan, number):
        return shown(self.stays(plan_of(plan), lambda one: scaled(one, num(number))))

    def test_scaled(self):
        self.assertEqual(self.scaled("w 1, v -2/3", "3/2"), {"w": "3/2", "v": "-1"})
        self.assertEqual(self.scaled("w 1, v -2/3", "-1"), {"w": "-1", "v": "2/3"})
        self.assertEqual(self.scaled("w 1, v -2/3", "1"), {"w": "1", "v": "-2/3"})
        self.assertEqual(shown(scaled(plan=plan_of("w 1"), number=num("2"))), {"w": "2"})

    def test_scaled_by_nought(self):
        self.assertEqual(self.scaled("w 1, v -2/3", "0"), {})

    def test_scaled_with_amounts_of_nought(self):
        self.assertEqual(self.scaled("w 0, v 1", "5"), {"v": "5"})
        self.assertEqual(self.scaled("", "5"), {})

    def test_scaled_is_a_new_plan(self):
        plan = plan_of("w 1")
        told = scaled(plan, num("1"))
        plan["w"] = Fraction(9)
        self.assertEqual(shown(told), {"w": "1"})


if __name__ == "__main__":
    unittest.main()
