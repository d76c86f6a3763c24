"""Points 22 and 23, and what point 2 says of strands."""

import copy
import unittest

from gainstream.errors import NoStrand
from gainstream.fractions import Fraction
from gainstream.strands import is_strand, strand_plan

from helper import LONG, all_rings, chance_net, chances, ends_of, net_of, num, plain, plain_strand_plan, plain_sums, \
    plain_walk_gain, plains, shown, small_number, strand_kind

# w v makes (gain 2), u t gives back just what it takes, s r eats (gain 1/3);
# q leads from the first to the second, p from the second to the third.
NET = net_of("a, b, c, d, e, f",
             "w a b 4, v b a 1/2, u c d 5, t d c 1/5, s e f 2/3, r f e 1/2, q b c 3, p c e 2, o b e 7, n e a 1/7")

STRANDS = [
    ("u t", "", "", "3"),
    ("t u", "", "", "1/2"),
    ("w v", "", "", "3"),
    ("v w", "q", "", "3"),
    ("v w", "q p", "", "3"),
    ("v w", "o", "s r", "3"),
    ("v w", "q p", "s r", "2/3"),
    ("", "q", "", "1"),
    ("", "q p s", "", "1"),
    ("", "", "r s", "1"),
    ("", "p", "s r", "1/9"),
    ("", "w q u", "", "5"),
    ("w v", "w o", "s r", "1"),
    ("v w", "o s", "r s", "1"),
    ("v w", "v", "", "1"),
]

NONE = [
    ("", "", "", "1"),
    ("w v", "", "", "0"),
    ("w v", "", "", "-1"),
    ("u t", "", "", "0"),
    ("u t", "", "", "-1/2"),
    ("", "q", "", "0"),
    ("", "q", "", "-1"),
    ("u t", "t", "", "1"),
    ("t u", "p", "", "1"),
    ("", "q", "u t", "1"),
    ("u t", "p", "s r", "1"),
    ("s r", "", "", "1"),
    ("s r", "n", "", "1"),
    ("", "", "w v", "1"),
    ("", "n", "w v", "1"),
    ("", "", "u t", "1"),
    ("v w v w", "", "", "1"),
    ("u t u t", "", "", "1"),
    ("w", "", "", "1"),
    ("w v", "w v", "", "1"),
    ("", "w v w", "", "1"),
    ("", "u t p", "", "1"),
    ("w v", "q", "", "1"),
    ("v w", "o", "r s", "1"),
    ("v w", "q", "s r", "1"),
    ("w v", "", "s r", "1"),
    ("v w", "p", "", "1"),
    ("x", "", "", "1"),
    ("", "x", "", "1"),
    ("", "q x", "", "1"),
    ("", "", "x", "1"),
    ("u t", "", "x", "1"),
    ("w w", "", "", "1"),
    ("", "q w", "", "1"),
    ("", "", "s s", "1"),
    ("", "", "s", "1"),
    ("", "s r", "s r", "1"),
]

# a b makes by 2, b c eats by 1/2: they meet in b.
JOINED = net_of("a, b, c", "w a b 2, v b a, u b c, t c b 1/2")


def strand_of(words):
    return (words[0].split(), words[1].split(), words[2].split(), num(words[3]))


class Asking(unittest.TestCase):
    def stays(self, strand, ask):
        before = copy.deepcopy(strand[:3]) + (strand[3],)
        told = ask(strand)
        self.assertEqual(strand, before)
        return told


class IsStrand(Asking):
    def test_strands(self):
        for words in STRANDS:
            with self.subTest(words):
                self.assertIs(self.stays(strand_of(words), lambda one: is_strand(NET, one)), True)
                self.assertIsNotNone(strand_kind(NET, strand_of(words)))

    def test_none(self):
        for words in NONE:
            with self.subTest(words):
                self.assertIs(self.stays(strand_of(words), lambda one: is_strand(NET, one)), False)
                self.assertIsNone(strand_kind(NET, strand_of(words)))

    def test_parts_that_meet_without_a_path(self):
        self.assertIs(is_strand(JOINED, (["v", "w"], [], ["u", "t"], LONG)), True)
        self.assertIs(is_strand(JOINED, (["w", "v"], [], ["u", "t"], LONG)), False)
        self.assertIs(is_strand(JOINED, (["v", "w"], [], ["t", "u"], LONG)), False)
        self.assertIs(is_strand(JOINED, (["w", "v"], ["w"], ["u", "t"], LONG)), True)
        self.assertIs(is_strand(JOINED, (["w", "v"], ["w", "u"], ["t", "u"], LONG)), True)

    def test_gains_just_beside_one(self):
        for last, head, tail, unit in [("1/3", False, False, True), ("333333334/1000000000", True, False, False),
                                       ("333333333/1000000000", False, True, False)]:
            net = net_of("a, b, c", "w a b 3, v b a " + last + ", u a c")
            self.assertIs(is_strand(net, (["w", "v"], ["u"], [], LONG)), head)
            self.assertIs(is_strand(net, ([], ["w"], ["v", "w"], LONG)), tail)
            self.assertIs(is_strand(net, (["w", "v"], [], [], LONG)), unit or head)

    def test_in_a_net_without_ways(self):
        self.assertIs(is_strand(net_of("a"), (["w"], [], [], LONG)), False)
        self.assertIs(is_strand(net_of(""), ([], [], [], LONG)), False)

    def test_names_of_the_arguments(self):
        self.assertIs(is_strand(net=NET, strand=strand_of(STRANDS[0])), True)

    def test_by_chance(self):
        seen = []
        for chance in chances(300):
            net = chance_net(chance, 4, 8)
            names = [way.name for way in net.all_ways()]
            rings = all_rings(net, names) + [[]]
            path = chance.sample(names, chance.randint(0, 2))
            strand = (chance.choice(rings), path, chance.choice(rings), small_number(chance, 0, 3))
            kind = strand_kind(net, strand)
            self.assertIs(is_strand(net, strand), kind is not None)
            seen.append(kind)
        self.assertEqual(set(seen), {"round", "road", None})


class StrandPlan(Asking):
    def told(self, words, net=NET):
        plan = self.stays(strand_of(words), lambda one: strand_plan(net, one))
        self.assertIs(type(plan), dict)
        return shown(plan)

    def test_rounds(self):
        self.assertEqual(self.told(("u t", "", "", "3")), {"u": "3", "t": "15"})
        self.assertEqual(self.told(("t u", "", "", "3")), {"t": "3", "u": "3/5"})

    # The head has the gain 2: as much goes in as comes out over.
    def test_a_head_alone(self):
        self.assertEqual(self.told(("w v", "", "", "3")), {"w": "3", "v": "12"})

    def test_a_path_alone(self):
        self.assertEqual(self.told(("", "q p", "", "1/2")), {"q": "1/2", "p": "3/2"})

    # The tail has the gain 1/3: what comes times 3/2 goes round.
    def test_a_tail_alone(self):
        self.assertEqual(self.told(("", "", "s r", "2")), {"s": "3", "r": "2"})

    def test_head_and_path(self):
        self.assertEqual(self.told(("v w", "q", "", "3")), {"v": "3", "w": "3/2", "q": "3"})

    def test_path_and_tail(self):
        self.assertEqual(self.told(("", "p", "s r", "1")), {"p": "1", "s": "3", "r": "2"})

    def test_all_three(self):
        wanted = {"v": "2", "w": "1", "q": "2", "p": "6", "s": "18", "r": "12"}
        self.assertEqual(self.told(("v w", "q p", "s r", "2")), wanted)

    def test_head_and_tail_without_a_path(self):
        self.assertEqual(self.told(("v w", "", "u t", "3"), JOINED), {"v": "3", "w": "3", "u": "6", "t": "6"})

    def test_ways_in_common(self):
        self.assertEqual(self.told(("w v", "w o", "s r", "1")), {"w": "2", "v": "4", "o": "4", "s": "42", "r": "28"})
        self.assertEqual(self.told(("v w", "o s", "r s", "1")),
                         {"v": "1", "w": "1/2", "o": "1", "s": "21/2", "r": "7"})
        self.assertEqual(self.told(("v w", "v", "", "1")), {"v": "2", "w": "1/2"})

    def sums_hold(self, net, strand):
        plan = strand_plan(net, strand)
        self.assertEqual(plains(plan), plain_strand_plan(net, strand))
        self.assertTrue(all(part.sign() > 0 for part in plan.values()))
        wanted = {place: 0 for place in net.names()}
        if strand_kind(net, strand) == "road":
            begin, end = ends_of(net, strand)
            if strand[0] == []:
                wanted[begin] -= plain(strand[3])
            if strand[2] == []:
                wanted[end] += plain(strand[3]) * plain_walk_gain(net, strand[1])
        self.assertEqual(plain_sums(net, plains(plan)), wanted)

    def test_the_sum_at_each_place(self):
        for words in STRANDS:
            with self.subTest(words):
                self.sums_hold(NET, strand_of(words))
                self.sums_hold(NET, strand_of(words)[:3] + (LONG,))

    def test_the_sum_at_each_place_by_chance(self):
        seen = 0
        for chance in chances(800):
            net = chance_net(chance, 4, 9)
            names = [way.name for way in net.all_ways()]
            rings = all_rings(net, names) + [[]]
            path = chance.sample(names, chance.randint(0, 2))
            strand = (chance.choice(rings), path, chance.choice(rings), small_number(chance, 1, 3))
            if strand_kind(net, strand):
                self.sums_hold(net, strand)
                seen += 1
        self.assertGreater(seen, 30)

    def test_what_is_no_strand(self):
        for words in NONE:
            with self.subTest(words):
                with self.assertRaises(NoStrand) as caught:
                    self.told(words)
                self.assertIs(type(caught.exception), NoStrand)

    def test_what_is_told_is_the_askers_own(self):
        strand = strand_of(("", "q p", "", "1"))
        plan = strand_plan(net=NET, strand=strand)
        strand[1].clear()
        self.assertEqual(shown(plan), {"q": "1", "p": "3"})
        plan["x"] = Fraction(1)
        self.assertEqual(self.told(("", "q p", "", "1")), {"q": "1", "p": "3"})


if __name__ == "__main__":
    unittest.main()
