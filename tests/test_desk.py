"""Points 37 and 38, and point 3 for what the desk tells."""

import unittest

from gainstream.apart import put_together, taken_apart
from gainstream.desk import Desk
from gainstream.errors import GainError, NoPlace, NoRow, NoWay, TooMany
from gainstream.nets import Net
from gainstream.texts import read_fraction

from helper import chances, look_of, looked_cheapest, looked_most, num, plain_gain, plain_sums, plain_worth, plains, \
    shown

START = ["place a -10", "place b 0", "place c 3", "way w a b 2 4 1", "way v b c 1/2 - 0", "way u a c 1 5/2 2"]

# Rows of none of the forms, whatever the desk holds.
NO_ROWS = [
    "", " ", "x", "ok", "Place a 1", "places a 1", "place", "place a", "place a 1 2", "place 1 a", "place A 1",
    "place a1 1", "place abcdefghi 1", "place a.b 1", "place  a 1", "place a  1", " place a 1", "place a 1 ",
    "place\ta 1", "place a 1\n", "place a +1", "place a 01", "place a 2/4", "place a -", "place a 1000000000",
    "place a 1.5", "place a b", "place a", "place a -0", "place, a 1", "PLACE a 1",
    "way", "way w", "way w a b", "way w a b 1", "way w a b 1 -", "way w a b 1 - 0 0", "way w a b 1 0",
    "way w a a 1 - 0", "way w x x 1 - 0", "way w a b 0 - 0", "way w a b -1 - 0", "way w a b -1/2 - 0",
    "way w a b - - 0", "way w a b 1 -1 0", "way w a b 1 -1/2 0", "way w a b 1 - -", "way w a b 1 x 0",
    "way w a b 1 -- 0", "way w a b 1 +1 0", "way W a b 1 - 0", "way w A b 1 - 0", "way w a B 1 - 0",
    "way w1 a b 1 - 0", "way w a b 2/2 - 0", "way w a b 1 - 0 ", " way w a b 1 - 0", "way w a  b 1 - 0",
    "way w a b x - 0", "way w a b 1 - x", "way abcdefghi a b 1 - 0", "way w abcdefghi b 1 - 0",
    "drop", "drop w v", "drop W", "drop 1", "drop  w", "drop w ", " drop w", "drop ",
    "send", "send w", "send w 1 2", "send w x", "send w -", "send W 1", "send w 01", "send w 1 ", "send 1 w",
    "cheapest a", "cheapest ", " cheapest", "Cheapest", "cheap", "cheapest\n",
    "most", "most a b", "most A", "most 1", "most  a", "most a ", "most ",
    "look a", "look ", " look", "Look", "looks", "look look",
    "amount", "amount w v", "amount W", "amount 1", "amount w ", "sum", "sum a b", "sum A", "sum 1/2", "sum  a",
    "cost a", "cost ", "costs", "price", "price a b", "price A", "price a ", "bound", "bound w v", "bound W", "bound 1",
    "net", "plan", "say look", "none", "lack", "endless", "look\tlook", "c\u00f6st", "place \u00e4 1", "place a \u0661",
]


def told_desk(rows=START):
    desk = Desk()
    for row in rows:
        desk.say(row)
    return desk


# All that can be seen of a desk: whatever is asked here changes nothing.
def seen(desk):
    places = [desk.say("sum " + name) + " " + desk.say("price " + name) for name in desk.net().names()]
    ways = [desk.say("amount " + way.name) + " " + desk.say("bound " + way.name) for way in desk.net().all_ways()]
    return (look_of(desk.net()), shown(desk.plan()), places, ways, desk.say("look"), desk.say("cost"))


class Asking(unittest.TestCase):
    def says(self, desk, rows):
        for row, wanted in rows:
            with self.subTest(row):
                told = desk.say(row)
                self.assertIs(type(told), str)
                self.assertEqual(told, wanted)

    def refused(self, kind, desk, row, told=None):
        before = seen(desk)
        with self.assertRaises(GainError) as caught:
            desk.say(row)
        self.assertIs(type(caught.exception), kind)
        if kind is NoPlace:
            self.assertEqual(caught.exception.place, told)
        if kind is NoWay:
            self.assertEqual(caught.exception.name, told)
        self.assertEqual(seen(desk), before)

    def way_look(self, desk):
        return [(way.name, way.start, way.goal, str(plain_gain(way)), way.high and way.high.shown(), way.cost.shown())
                for way in desk.net().all_ways()]


class Rows(Asking):
    def test_at_first(self):
        desk = Desk()
        self.assertIs(type(desk.net()), Net)
        self.assertEqual((desk.net().names(), desk.net().all_ways(), desk.plan()), ([], [], {}))
        self.says(desk, [("look", "ok"), ("cost", "0"), ("cheapest", "plan 0"), ("cost", "0")])

    def test_places(self):
        desk = Desk()
        self.says(desk, [("place b 1", "ok"), ("place a -3/2", "ok"), ("place abcdefgh 0", "ok")])
        self.assertEqual(look_of(desk.net())[0], [("b", "1"), ("a", "-3/2"), ("abcdefgh", "0")])

    def test_a_place_told_again(self):
        desk = Desk()
        self.says(desk, [("place b 1", "ok"), ("place a 2", "ok"), ("place b -7", "ok")])
        self.assertEqual(look_of(desk.net())[0], [("b", "-7"), ("a", "2")])

    def test_ways(self):
        desk = told_desk(["place a 0", "place b 0"])
        self.says(desk, [("way w a b 1 - 0", "ok"), ("way v b a 3/2 0 -1/3", "ok"), ("way u a b 1/2 7/2 5", "ok")])
        self.assertEqual(self.way_look(desk), [("w", "a", "b", "1", None, "0"), ("v", "b", "a", "3/2", "0", "-1/3"),
                                               ("u", "a", "b", "1/2", "7/2", "5")])

    def test_a_way_told_again(self):
        desk = told_desk()
        desk.say("send w 3")
        self.says(desk, [("way w c b 5 - -1", "ok"), ("amount w", "3"), ("sum b", "15")])
        self.assertEqual(self.way_look(desk), [("w", "c", "b", "5", None, "-1"), ("v", "b", "c", "1/2", None, "0"),
                                               ("u", "a", "c", "1", "5/2", "2")])

    def test_a_way_and_a_place_of_the_same_name(self):
        desk = told_desk(["place a 0", "place b 0"])
        self.says(desk, [("way a a b 2 - 0", "ok"), ("send a 3", "ok"), ("sum a", "-3"), ("amount a", "3")])

    def test_names_that_are_words_of_rows(self):
        desk = Desk()
        self.says(desk, [("place place 0", "ok"), ("place way 0", "ok"), ("way look place way 2 - 0", "ok"),
                         ("send look 1", "ok"), ("sum way", "2"), ("drop look", "ok")])

    def test_drop(self):
        desk = told_desk()
        self.says(desk, [("send w 1", "ok"), ("send v 2", "ok"), ("drop w", "ok"), ("amount v", "2")])
        self.assertEqual([way.name for way in desk.net().all_ways()], ["v", "u"])
        self.assertEqual(shown(desk.plan()), {"v": "2"})
        self.says(desk, [("way w a b 2 4 1", "ok"), ("amount w", "0"), ("drop u", "ok"), ("drop v", "ok"),
                         ("drop w", "ok"), ("cost", "0")])
        self.assertEqual(desk.net().all_ways(), [])

    def test_a_dropped_way_comes_behind_all_others(self):
        desk = told_desk()
        self.says(desk, [("drop w", "ok"), ("way w a b 2 4 1", "ok")])
        self.assertEqual([way.name for way in desk.net().all_ways()], ["v", "u", "w"])

    def test_send(self):
        desk = told_desk()
        self.says(desk, [("send w 1/2", "ok"), ("amount w", "1/2"), ("send v -3", "ok"), ("amount v", "-3"),
                         ("send w 7", "ok"), ("amount w", "7"), ("amount u", "0")])
        self.assertEqual(shown(desk.plan()), {"w": "7", "v": "-3"})
        self.says(desk, [("send w 0", "ok"), ("send u 0", "ok"), ("amount w", "0")])
        self.assertEqual(shown(desk.plan()), {"v": "-3"})

    def test_sum_and_cost(self):
        desk = told_desk()
        self.says(desk, [("send w 3", "ok"), ("send v 4", "ok"), ("send u 1/2", "ok"), ("sum a", "-7/2"),
                         ("sum b", "2"), ("sum c", "5/2"), ("cost", "4")])
        self.says(desk, [("way u a c 1/3 - -2/3", "ok"), ("cost", "8/3"), ("sum c", "13/6")])

    def test_look(self):
        desk = told_desk()
        self.says(desk, [("look", "place c"), ("send v 1", "ok"), ("look", "place b, place c"), ("send w 5", "ok"),
                         ("send u -1", "ok"), ("look", "bound w, bound u, place c"), ("send w 4", "ok"),
                         ("send u 5/2", "ok"), ("look", "ok"), ("send u 3", "ok"), ("look", "bound u")])

    def test_net_and_plan_are_the_askers_own(self):
        desk = told_desk()
        desk.say("send w 3")
        net, plan = desk.net(), desk.plan()
        before = seen(desk)
        plan["v"] = num("9")
        net.all_ways().clear()
        self.assertEqual(seen(desk), before)
        kept = look_of(net)
        for row in ["place a 5", "place d 1", "drop w", "way v c a 7 - 0"]:
            desk.say(row)
        self.assertEqual(look_of(net), kept)
        self.assertEqual(shown(plan), {"w": "3", "v": "9"})

    def test_two_desks(self):
        one, other = told_desk(), told_desk(["place z 5"])
        one.say("send w 3")
        self.assertEqual((other.plan(), other.net().names()), ({}, ["z"]))


class Answers(Asking):
    def test_a_plan(self):
        desk = told_desk()
        self.says(desk, [("send u 1", "ok"), ("cheapest", "plan 3"), ("amount w", "3"), ("amount v", "6"),
                         ("amount u", "0"), ("look", "ok"), ("cost", "3"), ("sum c", "3"), ("price c", "1"),
                         ("bound w", "0"), ("bound v", "0")])
        self.assertEqual(shown(desk.plan()), {"w": "3", "v": "6"})

    def test_the_most(self):
        desk = told_desk()
        self.says(desk, [("most c", "most 13/2"), ("amount w", "4"), ("sum c", "13/2"), ("price a", "0"),
                         ("bound w", "1"), ("bound u", "1"), ("bound v", "0"), ("look", "ok")])

    # The price of the asked place is told as it is in the answer.
    def test_the_price_of_the_asked_place(self):
        desk = told_desk(["place a -10", "place b 0", "way w a b 2 - 0"])
        self.says(desk, [("most b", "most 20"), ("price a", "2"), ("price b", "0")])

    def test_fractions_are_shown(self):
        desk = told_desk(["place a -1/3", "place b 1/7", "way w a b 2/3 - -1/2"])
        self.says(desk, [("cheapest", "plan -1/6"), ("most b", "most 2/9"), ("sum a", "-1/3"), ("cost", "-1/6")])

    def test_a_lack(self):
        desk = told_desk()
        self.says(desk, [("cheapest", "plan 3"), ("price c", "1"), ("place c 100", "ok"), ("cheapest", "lack"),
                         ("amount w", "3"), ("price c", "none"), ("bound w", "none"), ("most a", "lack"),
                         ("amount w", "3"), ("price a", "none")])

    def test_no_end(self):
        desk = told_desk(["place a 0", "place b 0", "way w a b 2 - 1", "way v b a 1 - -1", "send w 5"])
        self.says(desk, [("cheapest", "endless"), ("amount w", "5"), ("price a", "none"), ("bound w", "none"),
                         ("most a", "endless"), ("amount w", "5"), ("way w a b 2 - 3", "ok"), ("cheapest", "plan 0"),
                         ("amount w", "0"), ("price a", "0")])

    # An answer without prices does away with those of the answer ahead.
    def test_a_lack_behind_a_plan(self):
        desk = told_desk(["place a 0", "place b 0", "way w a b 2 - 0", "way v b a 1 - 0"])
        self.says(desk, [("cheapest", "plan 0"), ("price a", "0"), ("most a", "endless"), ("price a", "none"),
                         ("bound w", "none")])
        desk = told_desk(["place a 0", "place b 0", "way w a b 2 - -1", "way v b a 1 - 0"])
        self.says(desk, [("cheapest", "endless"), ("price a", "none")])

    def test_rows_that_do_away_with_the_prices(self):
        for row in ["place a -10", "place d 1", "way w a b 2 4 1", "way x a b 1 - 1", "drop w"]:
            desk = told_desk()
            self.says(desk, [("cheapest", "plan 3"), ("price c", "1"), (row, "ok"), ("price c", "none"),
                             ("bound u", "none"), ("amount v", "6")])

    def test_rows_that_leave_the_prices(self):
        desk = told_desk()
        self.says(desk, [("most c", "most 13/2"), ("send w 1/2", "ok"), ("bound w", "1"), ("price c", "0"),
                         ("look", "place b"), ("bound w", "1"), ("cost", "11/2"), ("sum a", "-3"),
                         ("amount w", "1/2"), ("bound u", "1")])
        self.refused(NoRow, desk, "place a x")
        self.refused(NoPlace, desk, "way x a z 1 - 0", "z")
        self.says(desk, [("bound w", "1")])

    def test_no_prices_at_first(self):
        self.says(told_desk(), [("price a", "none"), ("bound w", "none"), ("bound v", "none")])

    def test_a_bound_without_a_high(self):
        self.says(told_desk(), [("cheapest", "plan 3"), ("bound v", "0")])


class Refusals(Asking):
    def test_rows_of_none_of_the_forms(self):
        for desk in [Desk(), told_desk(), told_desk(START + ["cheapest"])]:
            for row in NO_ROWS:
                with self.subTest(ascii(row)):
                    self.refused(NoRow, desk, row)

    def test_names_that_must_be_there(self):
        desk = told_desk()
        for row, place in [("way x z a 1 - 0", "z"), ("way x a z 1 - 0", "z"), ("way x y z 1 - 0", "y"),
                           ("way w w a 1 - 0", "w"), ("sum z", "z"), ("sum w", "w"), ("price z", "z"), ("price w", "w"),
                           ("most z", "z"), ("most w", "w")]:
            self.refused(NoPlace, desk, row, place)
        for row, name in [("drop z", "z"), ("drop a", "a"), ("send z 1", "z"), ("send a 0", "a"), ("amount z", "z"),
                          ("amount a", "a"), ("bound z", "z"), ("bound a", "a")]:
            self.refused(NoWay, desk, row, name)

    def test_nothing_is_there_at_first(self):
        for word in ["sum", "price", "most"]:
            self.refused(NoPlace, Desk(), word + " a", "a")
        for word in ["drop", "amount", "bound"]:
            self.refused(NoWay, Desk(), word + " a", "a")
        self.refused(NoWay, Desk(), "send a 1", "a")
        self.refused(NoPlace, Desk(), "way w a b 1 - 0", "a")

    def test_the_form_comes_ahead_of_the_names(self):
        for row in ["way x z y 0 - 0", "way x z z 1 - 0", "way x z y 1 -1 0", "way x z y 1 - 1/1", "send z 1/1",
                    "sum z z", "drop z ", "most z a"]:
            self.refused(NoRow, told_desk(), row)

    def full(self):
        rows = ["place " + name + " 0" for name in "abcdefghijkl"]
        return told_desk(rows + ["way " + name + " a b 1 - 0" for name in "abcdefghijklmnopqrstuvwx"])

    def test_too_many_places(self):
        desk = self.full()
        self.refused(TooMany, desk, "place m 0")
        self.says(desk, [("place l 5", "ok"), ("place a 0", "ok")])
        self.assertEqual(len(desk.net().names()), 12)

    def test_too_many_ways(self):
        desk = self.full()
        self.refused(TooMany, desk, "way y a b 1 - 0")
        self.says(desk, [("way x b a 1 - 0", "ok"), ("drop a", "ok"), ("way y a b 1 - 0", "ok")])
        self.refused(TooMany, desk, "way a a b 1 - 0")

    def test_too_many_comes_last(self):
        desk = self.full()
        self.refused(NoPlace, desk, "way y a z 1 - 0", "z")
        self.refused(NoRow, desk, "way y a b 0 - 0")
        self.refused(NoRow, desk, "place m x")

    def test_a_refused_row_leaves_the_prices(self):
        desk = self.full()
        self.says(desk, [("cheapest", "plan 0"), ("price a", "0")])
        self.refused(TooMany, desk, "place m 0")
        self.refused(NoWay, desk, "drop z", "z")
        self.says(desk, [("price a", "0")])


# Rows by chance, held against a plain reckoning of what the desk holds.
class Sessions(Asking):
    def way_row(self, chance):
        start, goal = chance.sample("abc", 2)
        gain = chance.choice(["1", "2", "1/2", "3/2"])
        high = chance.choice(["-", "-", "-", "0", "7/2"])
        cost = chance.choice(["-1", "-1/3", "0", "1", "5/3"])
        return f"way {chance.choice('uvwxyz')} {start} {goal} {gain} {high} {cost}"

    def row(self, chance):
        place, way = chance.choice("abcd"), chance.choice("uvwxyz")
        number = chance.choice(["0", "1", "2", "-1", "-3", "1/2", "5/3", "-2/3", "4"])
        want = chance.choice(["-4", "-1/2", "0", "0", "3"])
        return chance.choice([
            f"place {place} {want}", self.way_row(chance), self.way_row(chance), f"drop {way}", f"send {way} {number}",
            "cheapest", "cheapest", f"most {place}", f"most {place}", "look", "cost", f"sum {place}",
        ])

    def papers(self, desk):
        prices = {name: read_long(desk.say("price " + name)) for name in desk.net().names()}
        bounds = {way.name: read_long(desk.say("bound " + way.name)) for way in desk.net().all_ways()}
        highs = [way.name for way in desk.net().all_ways() if way.high is not None]
        self.assertTrue(all(bounds[name].sign() == 0 for name in bounds if name not in highs))
        return prices, {name: bounds[name] for name in highs}

    def look_at(self, desk, row, told):
        net, plan = desk.net(), desk.plan()
        words = row.split()
        if words[0] == "cheapest" and told.startswith("plan "):
            answer = ("plan", plan) + self.papers(desk)
            self.assertEqual(looked_cheapest(net, answer), ("plan", plain_worth(net, plains(plan))))
            self.assertEqual(told, "plan " + str(plain_worth(net, plains(plan))))
        elif words[0] == "most" and told.startswith("most "):
            answer = ("most", read_long(told[5:]), plan) + self.papers(desk)
            self.assertEqual(looked_most(net, words[1], answer)[0], "most")
        elif words[0] == "cost":
            self.assertEqual(told, str(plain_worth(net, plains(plan))))
        elif words[0] == "sum":
            self.assertEqual(told, str(plain_sums(net, plains(plan))[words[1]]))
        elif words[0] in ("cheapest", "most"):
            self.assertIn(told, ["lack", "endless"])
            for name in net.names():
                self.assertEqual(desk.say("price " + name), "none")
        self.assertTrue(all(part.sign() != 0 for part in plan.values()))
        if all(part.sign() > 0 for part in plan.values()):
            self.assertEqual(shown(put_together(net, taken_apart(net, plan))), shown(plan))

    def test_by_chance(self):
        words = []
        for chance in chances(120):
            desk = told_desk(["place a -4", "place b 0", "place c 0"] + [self.way_row(chance) for way in range(4)])
            for step in range(40):
                row = self.row(chance)
                try:
                    told = desk.say(row)
                except (NoPlace, NoWay):
                    continue
                words.append(row.split()[0] + " " + told.split()[0])
                self.look_at(desk, row, told)
        for word in ["cheapest plan", "cheapest lack", "cheapest endless", "most most", "most lack", "most endless"]:
            self.assertGreater(words.count(word), 10, word)

    def test_the_greatest_desk(self):
        for chance in chances(5):
            desk = Desk()
            for name in "abcdefghijkl":
                desk.say(f"place {name} {num(chance.randint(-10 ** 9 + 1, 10 ** 7)).shown()}")
            for name in "abcdefghijklmnopqrstuvwx":
                start, goal = chance.sample("abcdefghijkl", 2)
                gain = num(f"{chance.randint(10 ** 8, 10 ** 9 - 1)}/{chance.randint(10 ** 8, 10 ** 9 - 1)}").shown()
                high = chance.choice(["-", str(chance.randint(10 ** 8, 10 ** 9 - 1))])
                desk.say(f"way {name} {start} {goal} {gain} {high} {chance.randint(1, 10 ** 9 - 1)}")
            self.look_at(desk, "cheapest", desk.say("cheapest"))
            self.look_at(desk, "most c", desk.say("most c"))


# What the desk tells may have more figures than what it is told.
def read_long(text):
    number = num(text)
    if len(text) < 9:
        assert read_fraction(text).same(number)
    assert number.shown() == text
    return number


if __name__ == "__main__":
    unittest.main()
