"""Point 24, and what point 2 says of it."""

import unittest

from gainstream.apart import put_together, taken_apart
from gainstream.errors import GainError, NoStrand, NoWay, OverBound
from gainstream.fractions import Fraction
from gainstream.nets import Net
from gainstream.ways import Growing, Leaking, Way

from helper import LONG, all_rings, chance_net, chances, ends_of, long_net, long_number, net_of, num, \
    plain_strand_plan, plain_sums, plain_walk_gain, plains, plan_of, shown, small_number, strand_kind

# w v makes, u t gives back just what it takes, s r eats.
NET = net_of("a, b, c, d, e, f",
             "w a b 4, v b a 1/2, u c d 5, t d c 1/5, s e f 2/3, r f e 1/2, q b c 3, p c e 2, o b e 7")


class Asking(unittest.TestCase):
    def refused(self, kind, ask, name=None):
        with self.assertRaises(GainError) as caught:
            ask()
        self.assertIs(type(caught.exception), kind)
        if name is not None:
            self.assertEqual(caught.exception.name, name)
        if kind is OverBound:
            self.assertEqual(caught.exception.bound.shown(), "0")

    # Takes the plan apart and looks at all that the point tells of the strands.
    def apart(self, net, plan):
        before = list(plan.items())
        strands = taken_apart(net, plan)
        self.assertEqual(list(plan.items()), before)
        self.assertIs(type(strands), list)
        amounts = {name: amount for name, amount in plains(plan).items() if amount != 0}
        come = plain_sums(net, amounts)
        added = {}
        for strand in strands:
            self.is_right(net, strand, come)
            for name, amount in plain_strand_plan(net, strand).items():
                added[name] = added.get(name, 0) + amount
        self.assertEqual(added, amounts)
        self.assertLessEqual(len(strands), len(amounts) + len([one for one in come.values() if one != 0]))
        self.assertEqual(plains(put_together(net, strands)), amounts)
        return strands

    def is_right(self, net, strand, come):
        self.assertIs(type(strand), tuple)
        self.assertEqual([type(one) for one in strand], [list, list, list, Fraction])
        kind = strand_kind(net, strand)
        self.assertIsNotNone(kind)
        if kind == "road":
            begin, end = ends_of(net, strand)
            self.assertTrue(strand[0] != [] or come[begin] < 0)
            self.assertTrue(strand[2] != [] or come[end] > 0)


class TakenApart(Asking):
    def test_the_empty_plan(self):
        self.assertEqual(self.apart(NET, {}), [])
        self.assertEqual(self.apart(net_of(""), {}), [])

    def test_amounts_of_nought(self):
        self.assertEqual(self.apart(NET, plan_of("w 0, q 0")), [])
        strands = self.apart(NET, plan_of("w 0, q 1/2, p 0"))
        self.assertEqual([strand[:3] for strand in strands], [([], ["q"], [])])

    def test_one_path(self):
        for strand in self.apart(NET, plan_of("q 1, p 3")):
            self.assertEqual(strand[:3], ([], ["q", "p"], []))

    def test_a_path_that_leaves_some_on_its_way(self):
        strands = self.apart(NET, plan_of("q 1, p 2"))
        self.assertEqual(len(strands), 2)

    def test_a_path_that_takes_more_on_its_way(self):
        self.apart(NET, plan_of("q 1, p 4"))

    def test_a_round(self):
        strands = self.apart(NET, plan_of("u 1, t 5"))
        self.assertEqual([strand_kind(NET, strand) for strand in strands], ["round"])

    def test_a_ring_that_makes(self):
        strands = self.apart(NET, plan_of("w 1, v 4"))
        self.assertEqual(len(strands), 1)
        self.assertEqual(sorted(strands[0][0]), ["v", "w"])
        self.assertEqual(ends_of(NET, strands[0])[1], "a")

    def test_a_ring_that_makes_with_a_way_out(self):
        strands = self.apart(NET, plan_of("w 1, v 2, q 2"))
        self.assertEqual(len(strands), 1)
        self.assertEqual(strands[0][2], [])

    def test_a_ring_that_eats(self):
        strands = self.apart(NET, plan_of("s 3, r 2"))
        self.assertEqual(len(strands), 1)
        self.assertEqual(sorted(strands[0][2]), ["r", "s"])
        self.assertEqual(ends_of(NET, strands[0])[0], "e")

    def test_from_a_ring_that_makes_into_one_that_eats(self):
        strands = self.apart(NET, plan_of("v 2, w 1, q 2, p 6, s 18, r 12"))
        for head, path, tail, amount in strands:
            self.assertTrue(head and tail)
        self.apart(NET, plan_of("v 2, w 1, q 1, p 3, o 1, s 39/2, r 13"))

    def test_rings_that_meet(self):
        net = net_of("a, b, c", "w a b 2, v b a, u b c, t c b 1/2")
        strands = self.apart(net, plan_of("v 3, w 3, u 6, t 6"))
        self.assertEqual(len(strands), 1)
        self.apart(net, plan_of("v 3, w 3, u 7, t 6"))
        self.apart(net, plan_of("v 3, w 4, u 6, t 5"))

    def test_plans_that_need_several_strands(self):
        net = net_of("a, b, c, d", "w a b, v a c, u b d, t c d, s b c 2, r d a 1/2")
        self.assertGreater(len(self.apart(net, plan_of("w 3, v 1, u 1, t 6"))), 1)
        self.apart(net, plan_of("w 3, v 1, u 1, t 5, s 2, r 6"))
        self.apart(net, plan_of("w 3, v 1, u 1, t 5, s 2, r 8"))

    def test_all_the_same_places_both_ways(self):
        net = net_of("a, b", "w a b 2, v b a 1/2, u a b 3, t b a 1/3, s a b, r b a")
        for text in ["w 1, v 2, u 1, t 3, s 1, r 1", "w 1, t 2, u 1, r 3", "w 5, r 1, s 7, t 2", "v 1, u 1, r 9"]:
            self.apart(net, plan_of(text))

    def test_each_kind_of_way(self):
        ways = [Way("w", "a", "b"), Growing("v", "b", "c", num("3/2")), Leaking("u", "c", "a", num("1/3"))]
        net = Net([(name, Fraction(0)) for name in "abc"], ways)
        strands = self.apart(net, plan_of("w 2, v 2, u 3"))
        self.assertEqual([strand_kind(net, strand) for strand in strands], ["round"])
        self.apart(net, plan_of("w 2, v 1, u 9"))

    # Bounds and wants are not looked at.
    def test_beyond_bounds_and_wants(self):
        net = net_of("a 5, b 7", "w a b 2 1")
        self.assertEqual(len(self.apart(net, plan_of("w 100"))), 1)

    def test_names_that_are_no_ways(self):
        for text, name in [("x 1", "x"), ("w 1, x 0, y 1", "x"), ("a -1, w -1", "a")]:
            self.refused(NoWay, lambda: taken_apart(NET, plan_of(text)), name)

    def test_amounts_under_nought(self):
        for text, name in [("w -1", "w"), ("w 1, v -1/9, u -1", "v"), ("w -1, x 1", "w")]:
            self.refused(OverBound, lambda: taken_apart(NET, plan_of(text)), name)
        self.refused(NoWay, lambda: taken_apart(NET, plan_of("w 1, x -1, v -1")), "x")

    def test_names_of_the_arguments(self):
        self.assertEqual(taken_apart(net=NET, plan={}), [])
        self.assertEqual(put_together(net=NET, strands=[]), {})

    def test_what_is_told_is_the_askers_own(self):
        plan = plan_of("v 2, w 1, q 1, p 3, o 1, s 39/2, r 13")
        strands = taken_apart(NET, plan)
        kept = [tuple(list(walk) for walk in strand[:3]) for strand in strands]
        plan.clear()
        self.assertEqual([strand[:3] for strand in strands], kept)
        lists = [walk for strand in strands for walk in strand[:3]]
        self.assertEqual(len(set([id(walk) for walk in lists])), len(lists))

    def test_by_chance(self):
        heads, tails, rounds = 0, 0, 0
        for chance in chances(500):
            net = chance_net(chance, chance.randint(2, 7), chance.randint(0, 14))
            plan = {way.name: small_number(chance, 0, 5) for way in net.all_ways()}
            for strand in self.apart(net, plan):
                rounds += strand_kind(net, strand) == "round"
                heads += strand[0] != []
                tails += strand[2] != []
        self.assertGreater(min(heads - rounds, tails, rounds), 30)

    # In plans that are added up of strands the sums are often nought.
    def test_sums_of_strands_by_chance(self):
        seen = 0
        for chance in chances(300):
            net = chance_net(chance, 5, 12)
            rings = all_rings(net, [way.name for way in net.all_ways()])
            strands = []
            for again in range(chance.randint(1, 3) if rings else 0):
                ring = chance.choice(rings)
                parts = ([], [], ring) if plain_walk_gain(net, ring) < 1 else (ring, [], [])
                strands.append(parts + (small_number(chance, 1, 4),))
            seen += len(self.apart(net, put_together(net, strands)))
        self.assertGreater(seen, 300)

    def test_many_figures(self):
        for chance in chances(8):
            net = long_net(chance, places=chance.randint(3, 12))
            self.apart(net, {way.name: long_number(chance) for way in net.all_ways()})

    # What is told may be handed in again, however many figures it has.
    def test_what_is_told_is_taken_apart_again(self):
        chance = chances(1)[0]
        net = long_net(chance)
        plan = {way.name: long_number(chance) for way in net.all_ways()}
        self.apart(net, put_together(net, taken_apart(net, plan)))
        self.apart(net, put_together(net, taken_apart(net, plan)[1::2]))


class PutTogether(Asking):
    def test_none(self):
        self.assertEqual(put_together(NET, []), {})

    def test_one(self):
        self.assertEqual(shown(put_together(NET, [([], ["q", "p"], [], num("1/3"))])), {"q": "1/3", "p": "1"})

    def test_several(self):
        strands = [([], ["q", "p"], [], num("1/3")), (["u", "t"], [], [], num("2")), ([], ["p"], ["s", "r"], num("1"))]
        wanted = {"q": "1/3", "p": "2", "u": "2", "t": "10", "s": "3", "r": "2"}
        self.assertEqual(shown(put_together(NET, strands)), wanted)
        self.assertEqual([len(strand[1]) for strand in strands], [2, 0, 1])

    def test_the_same_one_twice(self):
        strand = ([], ["q"], [], LONG)
        self.assertTrue(put_together(NET, [strand, strand])["q"].same(LONG.plus(LONG)))

    def test_one_that_is_no_strand(self):
        good = ([], ["q"], [], num("1"))
        for bad in [([], [], [], num("1")), ([], ["q"], [], num("0")), ([], ["x"], [], num("1")),
                    (["s", "r"], [], [], num("1")), ([], ["q", "q"], [], num("1"))]:
            for strands in [[bad], [good, bad], [bad, good], [good, bad, good]]:
                self.refused(NoStrand, lambda: put_together(NET, strands))

    def test_two_hundred(self):
        strands = [([], ["q"], [], num("1/7"))] * 200
        self.assertEqual(shown(put_together(NET, strands)), {"q": "200/7"})


if __name__ == "__main__":
    unittest.main()
