"""Points 1, 2 and 3 over the whole program, and the interface's names and arguments."""

import importlib
import inspect
import unittest

from gainstream.apart import put_together, taken_apart
from gainstream.cheapest import cheapest
from gainstream.fractions import Fraction
from gainstream.looks import shows, shows_most
from gainstream.most import most
from gainstream.plans import checked, faults, sums, together, worth
from gainstream.strands import is_strand, strand_plan
from gainstream.turns import by_turns, turned
from gainstream.ways import Store

from helper import chance_net, chances, long_net, look_of_answer, looked_cheapest, looked_most, net_of, num, odd_nets, \
    plain, plains, shuffled

FUNCTIONS = {
    "fractions": {"divisor": "one other", "total": "some"},
    "plans": {"amount": "plan name", "sums": "net plan", "worth": "net plan", "faults": "net plan",
              "checked": "net plan", "together": "one other", "scaled": "plan number"},
    "walks": {"places_of": "net walk", "gain_of": "net walk", "is_path": "net walk", "is_ring": "net walk",
              "sent": "net walk amount", "from_place": "net ring place", "cut_short": "net walk"},
    "rings": {"making": "net names", "eating": "net names"},
    "strands": {"is_strand": "net strand", "strand_plan": "net strand"},
    "apart": {"taken_apart": "net plan", "put_together": "net strands"},
    "grids": {"grid": "rows bounds n", "exchanged": "grid i j"},
    "greatest": {"greatest": "rows bounds gains"},
    "cheapest": {"rows_of": "net", "cheapest": "net"},
    "most": {"most": "net place"},
    "looks": {"shows": "net answer", "shows_most": "net place answer"},
    "turns": {"turned": "net stores wants", "by_turns": "net stores wants plan"},
    "texts": {"read_fraction": "text", "is_name": "text"},
}

CLASSES = {
    ("fractions", "Fraction"): {"": "top bottom=1", "plus": "other", "minus": "other", "times": "other",
                                "over": "other", "under": "other", "same": "other", "sign": "", "shown": ""},
    ("ways", "Way"): {"": "name start goal high=None cost=None", "gain": "", "out": "amount", "at_turn": "turn"},
    ("ways", "Growing"): {"": "name start goal rate high=None cost=None"},
    ("ways", "Leaking"): {"": "name start goal loss high=None cost=None"},
    ("ways", "Store"): {"": "name place loss high=None cost=None"},
    ("nets", "Net"): {"": "places ways", "names": "", "want": "place", "way": "name", "all_ways": "",
                      "wanting": "wants"},
    ("desk", "Desk"): {"": "", "say": "row", "net": "", "plan": ""},
}


def module(name):
    return importlib.import_module("gainstream." + name)


def arguments(called):
    return " ".join([str(one) for one in inspect.signature(called).parameters.values()])


class Interface(unittest.TestCase):
    def test_functions(self):
        for name, functions in FUNCTIONS.items():
            for function, wanted in functions.items():
                with self.subTest(name, function=function):
                    self.assertEqual(arguments(getattr(module(name), function)), wanted)

    def test_classes(self):
        for (name, made), methods in CLASSES.items():
            made = getattr(module(name), made)
            for method, wanted in methods.items():
                with self.subTest(made, method=method):
                    told = arguments(getattr(made, method)) if method else arguments(made)
                    self.assertEqual(told.removeprefix("self").strip(), wanted)


# One net, asked for all that can be asked of it.
class Whole(unittest.TestCase):
    def nets(self):
        yield from odd_nets().values()
        for chance in chances(60):
            yield chance_net(chance, chance.randint(1, 6), chance.randint(0, 12), chance.choice([0, 0.4, 1]))
        for chance in chances(3):
            yield long_net(chance)

    def same(self, one, other):
        self.assertEqual(plains(one), plains(other))

    def apart_and_together(self, net, plan):
        strands = taken_apart(net, plan)
        self.assertTrue(all(is_strand(net, strand) for strand in strands))
        self.same(put_together(net, strands), plan)
        added = Fraction(0)
        for strand in strands:
            added = added.plus(worth(net, strand_plan(net, strand)))
        self.assertTrue(added.same(worth(net, plan)))

    def test_cheapest_plans(self):
        for net in self.nets():
            answer = cheapest(net)
            self.assertIs(shows(net, answer), True)
            word, value = looked_cheapest(net, answer)
            if word == "plan":
                self.assertEqual(plain(checked(net, answer[1])), value)
                self.apart_and_together(net, answer[1])
            if word == "endless":
                self.grows_without_end(net, answer, lambda plan: Fraction(0).minus(worth(net, plan)))

    def test_the_most(self):
        for net in self.nets():
            for place in net.names()[:3]:
                answer = most(net, place)
                self.assertIs(shows_most(net, place, answer), True)
                word, value = looked_most(net, place, answer)
                if word == "most":
                    self.assertEqual(plain(sums(net, answer[2])[place]), value)
                    self.apart_and_together(net, answer[2])
                if word == "endless":
                    self.grows_without_end(net, answer, lambda plan: sums(net, plan)[place])

    # The strand can be added to the plan in any amount, and each is better than those ahead.
    def grows_without_end(self, net, answer, value):
        reached = value(answer[1])
        for amount in ["1/1000", "1", "1000000"]:
            strand = answer[2][:3] + (num(amount),)
            plan = together(answer[1], strand_plan(net, strand))
            self.assertEqual(faults(net, plan), [])
            self.assertTrue(reached.under(value(plan)))
            reached = value(plan)

    # With its wants laid lower a net that lacks comes to have a plan, and never the other way.
    def test_lower_wants(self):
        for chance in chances(60):
            net = chance_net(chance, chance.randint(1, 5), chance.randint(0, 10))
            lower = net.wanting({place: net.want(place).minus(num("2")) for place in net.names()})
            words = cheapest(net)[0], cheapest(lower)[0]
            self.assertIn(words, [("plan", "plan"), ("lack", "plan"), ("lack", "lack"), ("endless", "endless"),
                                  ("lack", "endless")])
            if words == ("plan", "plan"):
                self.assertFalse(worth(net, cheapest(net)[1]).under(worth(net, cheapest(lower)[1])))

    def test_the_same_answer_each_time_and_in_any_order(self):
        for chance in chances(30):
            net = chance_net(chance, chance.randint(1, 5), chance.randint(0, 10))
            self.assertEqual(str(look_of_answer(cheapest(net))), str(look_of_answer(cheapest(net))))
            place = chance.choice(net.names())
            for other in [shuffled(chance, net), shuffled(chance, net)]:
                self.assertEqual(looked_cheapest(other, cheapest(other)), looked_cheapest(net, cheapest(net)))
                wanted = looked_most(net, place, most(net, place))
                self.assertEqual(looked_most(other, place, most(other, place)), wanted)

    def test_turns(self):
        net = net_of("corn, bread 1", "bake corn bread 1/2 - 1")
        stores = [Store("barn", "corn", num("1/3"), None, num("1/10")), Store("shelf", "bread", num("0"), num("1"))]
        wants = [{"corn": num("-11")}, {}, {"bread": num("3/2")}]
        whole = turned(net, stores, wants)
        answer = cheapest(whole)
        self.assertIs(shows(whole, answer), True)
        self.assertEqual(answer[0], "plan")
        self.apart_and_together(whole, answer[1])
        for turn, (plan, taken, put) in enumerate(by_turns(net, stores, wants, answer[1]), start=1):
            for place, come in sums(net, plan).items():
                self.assertFalse(come.plus(taken[place]).minus(put[place]).under(whole.want(place + "." + str(turn))))


if __name__ == "__main__":
    unittest.main()
