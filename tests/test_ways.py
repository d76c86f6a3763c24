"""Points 7, 8 and 9, and what point 2 says of ways."""

import unittest

from gainstream.errors import GainError, NoWay
from gainstream.fractions import Fraction
from gainstream.ways import Growing, Leaking, Store, Way

THIRD = Fraction(1, 3)
HIGH = Fraction(7, 2)
COST = Fraction(-5, 4)
LONG = Fraction(10 ** 59 + 7, 10 ** 59 + 9)


# One of each kind, with the high and cost told.
def four(high=None, cost=None):
    return [
        Way("w", "a", "b", high, cost),
        Growing("w", "a", "b", Fraction(5, 2), high, cost),
        Leaking("w", "a", "b", THIRD, high, cost),
        Store("w", "a", THIRD, high, cost),
    ]


def fields(way):
    high = None if way.high is None else way.high.shown()
    rest = [getattr(way, field).shown() for field in ["rate", "loss"] if hasattr(way, field)]
    return (type(way), way.name, way.start, way.goal, high, way.cost.shown(), rest)


class Kinds(unittest.TestCase):
    def is_number(self, number, text):
        self.assertIs(type(number), Fraction)
        self.assertEqual(number.shown(), text)

    def test_which_class_each_stands_under(self):
        self.assertEqual(Growing.__bases__, (Way,))
        self.assertEqual(Leaking.__bases__, (Way,))
        self.assertEqual(Store.__bases__, (Leaking,))
        self.assertFalse(issubclass(Growing, Leaking))

    def test_names_and_places(self):
        for way in four()[:3]:
            self.assertEqual((way.name, way.start, way.goal), ("w", "a", "b"))
        store = four()[3]
        self.assertEqual((store.name, store.start, store.goal), ("w", "a", "a"))

    def test_high_and_cost_left_out(self):
        for way in [Way("w", "a", "b"), Growing("w", "a", "b", THIRD),
                    Leaking("w", "a", "b", THIRD), Store("w", "a", THIRD)]:
            self.assertIsNone(way.high)
            self.is_number(way.cost, "0")

    def test_high_and_cost_none(self):
        for way in four(None, None):
            self.assertIsNone(way.high)
            self.is_number(way.cost, "0")

    def test_high_and_cost_handed_in(self):
        for way in four(HIGH, COST):
            self.is_number(way.high, "7/2")
            self.is_number(way.cost, "-5/4")

    def test_one_of_the_two_handed_in(self):
        for way in four(HIGH):
            self.is_number(way.high, "7/2")
            self.is_number(way.cost, "0")
        for way in four(None, COST):
            self.assertIsNone(way.high)
            self.is_number(way.cost, "-5/4")

    def test_a_cost_of_nought(self):
        for way in four(None, Fraction(0)):
            self.is_number(way.cost, "0")

    def test_arguments_by_name(self):
        ways = [
            Way(name="w", start="a", goal="b", high=HIGH, cost=COST),
            Growing(name="w", start="a", goal="b", rate=Fraction(5, 2), high=HIGH, cost=COST),
            Leaking(name="w", start="a", goal="b", loss=THIRD, high=HIGH, cost=COST),
            Store(name="w", place="a", loss=THIRD, high=HIGH, cost=COST),
        ]
        self.assertEqual([fields(way) for way in ways], [fields(way) for way in four(HIGH, COST)])

    def test_rate_and_loss(self):
        self.is_number(four()[1].rate, "5/2")
        self.is_number(four()[2].loss, "1/3")
        self.is_number(four()[3].loss, "1/3")

    def test_gain(self):
        for way, text in zip(four(), ["1", "5/2", "2/3", "2/3"]):
            self.is_number(way.gain(), text)

    def test_gain_at_the_edges(self):
        self.is_number(Leaking("w", "a", "b", Fraction(0)).gain(), "1")
        self.is_number(Store("w", "a", Fraction(0)).gain(), "1")
        self.is_number(Leaking("w", "a", "b", Fraction(99, 100)).gain(), "1/100")
        self.is_number(Growing("w", "a", "b", Fraction(1, 100)).gain(), "1/100")
        self.is_number(Growing("w", "a", "b", Fraction(1)).gain(), "1")

    def test_out(self):
        for amount, texts in [
            (Fraction(3), ["3", "15/2", "2", "2"]),
            (Fraction(0), ["0", "0", "0", "0"]),
            (Fraction(-3, 5), ["-3/5", "-3/2", "-2/5", "-2/5"]),
        ]:
            for way, text in zip(four(), texts):
                self.is_number(way.out(amount), text)
        self.is_number(four()[1].out(amount=Fraction(2)), "5")

    # The high bounds plans; what comes out of a way does not hang on it.
    def test_out_above_the_high(self):
        for way, text in zip(four(Fraction(1)), ["6", "15", "4", "4"]):
            self.is_number(way.out(Fraction(6)), text)

    def test_numbers_of_sixty_figures(self):
        way = Growing("w", "a", "b", LONG, LONG, LONG)
        self.assertTrue(way.out(LONG).same(LONG.times(LONG)))
        leak = Leaking("w", "a", "b", LONG)
        self.assertTrue(leak.gain().same(Fraction(2, 10 ** 59 + 9)))

    def test_names_of_places_and_ways_may_be_the_same(self):
        self.assertEqual(Way("a", "a", "b").name, "a")
        self.assertEqual(Store("a", "a", THIRD).name, "a")

    def test_long_names(self):
        name = "a1." * 20
        self.assertEqual(Way(name, name, "b").start, name)

    def test_asking_changes_nothing(self):
        for way in four(HIGH, COST):
            before = fields(way)
            way.gain()
            way.out(Fraction(7))
            way.at_turn(4)
            self.assertEqual(fields(way), before)

    def test_what_is_handed_in_stays(self):
        handed = [Fraction(1, 3), Fraction(2), Fraction(-4, 5), Fraction(9)]
        Growing("w", "a", "b", handed[0], handed[1], handed[2]).out(handed[3])
        Leaking("w", "a", "b", handed[0], handed[1], handed[2]).out(handed[3])
        self.assertEqual([number.shown() for number in handed], ["1/3", "2", "-4/5", "9"])


class Refusals(unittest.TestCase):
    def refused(self, name, make):
        with self.assertRaises(NoWay) as caught:
            make()
        self.assertIs(type(caught.exception), NoWay)
        self.assertIsInstance(caught.exception, GainError)
        self.assertEqual(caught.exception.name, name)

    def test_start_and_goal_the_same(self):
        self.refused("w", lambda: Way("w", "a", "a"))
        self.refused("v.1", lambda: Growing("v.1", "a", "a", Fraction(2)))
        self.refused("u", lambda: Leaking("u", "a", "a", THIRD))
        self.refused("u", lambda: Leaking("u", "a", "a", Fraction(0), HIGH, COST))

    def test_equal_texts_made_apart_are_the_same_place(self):
        self.refused("w", lambda: Way("w", "".join(["a", "b"] * 9), "ab" * 9))

    def test_start_and_goal_of_a_store(self):
        store = Store("s", "a", Fraction(0))
        self.assertEqual((store.start, store.goal), ("a", "a"))

    def test_high_under_nought(self):
        for high in [Fraction(-1), Fraction(1, -10 ** 59)]:
            self.refused("w", lambda: Way("w", "a", "b", high))
            self.refused("v", lambda: Growing("v", "a", "b", Fraction(2), high))
            self.refused("u", lambda: Leaking("u", "a", "b", THIRD, high))
            self.refused("s", lambda: Store("s", "a", THIRD, high))

    def test_high_of_nought(self):
        for way in four(Fraction(0)):
            self.assertEqual(way.high.shown(), "0")

    def test_rate_not_above_nought(self):
        for rate in [Fraction(0), Fraction(-1), Fraction(1, -10 ** 59)]:
            self.refused("v", lambda: Growing("v", "a", "b", rate))

    def test_rate_just_above_nought(self):
        self.assertEqual(Growing("v", "a", "b", Fraction(1, 10 ** 59)).rate.bottom, 10 ** 59)

    def test_loss_under_nought_or_not_under_one(self):
        wrong = [Fraction(-1), Fraction(1, -10 ** 59), Fraction(1), Fraction(3, 2), Fraction(10 ** 59 + 1, 10 ** 59)]
        for loss in wrong:
            self.refused("u", lambda: Leaking("u", "a", "b", loss))
            self.refused("s", lambda: Store("s", "a", loss))

    def test_loss_of_nought_and_just_under_one(self):
        for loss in [Fraction(0), Fraction(10 ** 59 - 1, 10 ** 59)]:
            self.assertTrue(Leaking("u", "a", "b", loss).loss.same(loss))
            self.assertTrue(Store("s", "a", loss).loss.same(loss))

    def test_any_cost_is_taken(self):
        for cost in [Fraction(-10 ** 59), Fraction(0), Fraction(10 ** 59)]:
            for way in four(None, cost):
                self.assertTrue(way.cost.same(cost))

    def test_several_faults_at_once(self):
        self.refused("w", lambda: Way("w", "a", "a", Fraction(-1)))
        self.refused("v", lambda: Growing("v", "a", "a", Fraction(0), Fraction(-1)))
        self.refused("u", lambda: Leaking("u", "a", "a", Fraction(1), Fraction(-1)))


class Turns(unittest.TestCase):
    def is_way(self, way, kind, name, start, goal):
        self.assertIs(type(way), kind)
        self.assertEqual((way.name, way.start, way.goal), (name, start, goal))

    def all_at(self, turn, figures, following):
        for high, cost in [(None, None), (HIGH, COST), (Fraction(0), None)]:
            for way in four(high, cost):
                before = fields(way)
                told = way.at_turn(turn)
                stored = isinstance(way, Store)
                kind = Leaking if stored else type(way)
                goal = "a." + following if stored else "b." + figures
                self.is_way(told, kind, "w." + figures, "a." + figures, goal)
                self.assertEqual(fields(told)[4:], before[4:])
                self.assertTrue(told.gain().same(way.gain()))
                self.assertEqual(fields(way), before)

    def test_turn_nought(self):
        self.all_at(0, "0", "1")

    def test_turn_three(self):
        self.all_at(3, "3", "4")

    def test_turn_nine(self):
        self.all_at(9, "9", "10")

    def test_turn_of_many_figures(self):
        self.all_at(10 ** 299, "1" + "0" * 299, "1" + "0" * 298 + "1")
        self.all_at(10 ** 299 - 1, "9" * 299, "1" + "0" * 299)

    def test_turn_of_a_turn(self):
        plain, growing, leaking, store = [way.at_turn(3).at_turn(12) for way in four(HIGH, COST)]
        self.is_way(plain, Way, "w.3.12", "a.3.12", "b.3.12")
        self.is_way(growing, Growing, "w.3.12", "a.3.12", "b.3.12")
        self.is_way(leaking, Leaking, "w.3.12", "a.3.12", "b.3.12")
        self.is_way(store, Leaking, "w.3.12", "a.3.12", "a.4.12")
        self.assertEqual(growing.rate.shown(), "5/2")
        self.assertEqual(store.loss.shown(), "1/3")
        for way in [plain, growing, leaking, store]:
            self.assertEqual((way.high.shown(), way.cost.shown()), ("7/2", "-5/4"))

    def test_names_with_points_and_long_names(self):
        name = "x.9" * 20
        told = Way(name, name, "b.2").at_turn(7)
        self.is_way(told, Way, name + ".7", name + ".7", "b.2.7")

    def test_name_of_the_argument(self):
        self.assertEqual(Store("s", "a", THIRD).at_turn(turn=1).goal, "a.2")


if __name__ == "__main__":
    unittest.main()
