"""Makers, [15]."""

import itertools
import random
import unittest
from fractions import Fraction

from bothwheels.errors import CanNot, TooMany, Unfit
from bothwheels.makers import is_lowered, is_lowest, is_raised, is_reached, lowered, lowest, raised, reached
from bothwheels.most import most
from bothwheels.wheels import finer, is_train, is_wheel
from tests.reckoning import (
    drawn_train, drawn_wheel, led_at_once, pair, slow_common, slow_most, slow_together, slow_turning, slow_value, small_wheels,
    steady, value,
)

HALF, THIRD = (1, 2), (1, 3)
F, G = (3, 6, 6, 6, 9, 9), (3, 3, 5, 5, 7, 7)
SLOW, QUICK = (0, 2, 2), (1, 6, 7, 7, 7, 7)


def is_no_less(wheel, other, many):
    """Whether other leads many z at least many times as far as wheel leads z, z several rounds long."""
    places = len(wheel)
    return all([
        led_at_once(other, many * z) >= many * led_at_once(wheel, z) for z in range(-2 * places, 3 * places)
    ])


def is_no_more(wheel, other, many):
    places = len(wheel)
    return all([
        led_at_once(other, many * z) <= many * led_at_once(wheel, z) for z in range(-2 * places, 3 * places)
    ])


def near(turned, bottoms=(1, 2, 3, 4, 5)):
    """FRACTIONS just at one of Python's, a little above and below it, and further off."""
    found = {turned}
    for below in bottoms:
        at = (turned * below).__floor__()
        found |= {Fraction(at + more, below) for more in (-2, -1, 0, 1, 2)}
    return sorted(found)


def wheels_to_raise():
    """Small wheels, rings of one place among them, and drawn ones."""
    draw = random.Random(301)
    found = small_wheels(1, -2, 2) + small_wheels(2, -2, 2) + small_wheels(3, -1, 2)
    found += draw.sample(small_wheels(4, -2, 3), 40)
    found += [drawn_wheel(draw, draw.randrange(1, 25), 60) for k in range(60)]
    found += [steady(places, steps) for places, steps in ((1, -7), (2, 1), (5, 3), (24, 7))]
    return found


class Raised(unittest.TestCase):
    def test_raised_exactly_if_it_turns_at_most_so(self):
        for wheel in wheels_to_raise():
            turned = slow_turning(wheel)
            for goal in near(turned):
                if turned > goal:
                    self.assertRaises(CanNot, raised, wheel, pair(goal))
                    continue
                told = raised(wheel, pair(goal))
                other, many = told
                self.assertEqual(many, goal.denominator)
                self.assertTrue(is_wheel(other))
                self.assertEqual(len(other), many * len(wheel))
                self.assertEqual(slow_turning(other), goal, (wheel, goal))
                self.assertTrue(is_no_less(wheel, other, many), (wheel, goal))
                self.assertIs(is_raised(wheel, pair(goal), told), True)

    def test_lowered_exactly_if_it_turns_at_least_so(self):
        for wheel in wheels_to_raise():
            turned = slow_turning(wheel)
            for goal in near(turned):
                if turned < goal:
                    self.assertRaises(CanNot, lowered, wheel, pair(goal))
                    continue
                told = lowered(wheel, pair(goal))
                other, many = told
                self.assertEqual(many, goal.denominator)
                self.assertTrue(is_wheel(other))
                self.assertEqual(len(other), many * len(wheel))
                self.assertEqual(slow_turning(other), goal, (wheel, goal))
                self.assertTrue(is_no_more(wheel, other, many), (wheel, goal))
                self.assertIs(is_lowered(wheel, pair(goal), told), True)

    def test_just_at_the_turning(self):
        for wheel in (SLOW, F, G, (5,), (0, 0, 0, 4), (1, 3, 3, 5)):
            turned = pair(slow_turning(wheel))
            for function, judge in ((raised, is_raised), (lowered, is_lowered)):
                told = function(wheel, turned)
                self.assertEqual(slow_turning(told[0]), value(turned))
                self.assertIs(judge(wheel, turned, told), True)
                self.assertIs(judge(wheel, turned, (wheel, 1)), True)

    def test_far_off(self):
        for wheel in (SLOW, F, (0,)):
            for goal in ((10 ** 6, 1), (10 ** 6 + 1, 100), (99, 100), (7, 97)):
                other, many = raised(wheel, goal) if value(goal) >= slow_turning(wheel) else lowered(wheel, goal)
                self.assertEqual(slow_turning(other), value(goal))
                down = (-goal[0], goal[1])
                self.assertEqual(slow_turning(lowered(wheel, down)[0]), value(down))
                self.assertTrue(is_no_more(wheel, *lowered(wheel, down)))

    def test_there_is_none_for_a_lesser_fraction(self):
        # Of all WHEELS of as many places, or twice as many, that are no less.
        for wheel in small_wheels(2, -1, 1):
            for many in (1, 2):
                for other in small_wheels(2 * many, 2 * many * -2, 2 * many * 2):
                    if is_no_less(wheel, other, many):
                        self.assertGreaterEqual(slow_turning(other), slow_turning(wheel))
                    if is_no_more(wheel, other, many):
                        self.assertLessEqual(slow_turning(other), slow_turning(wheel))


class JudgedPairs(unittest.TestCase):
    def test_all_of_small_rings(self):
        for wheel in small_wheels(2, -1, 1):
            for many in (1, 2):
                for other in small_wheels(2 * many, -2, 3):
                    turned = slow_turning(other)
                    for goal in {turned, Fraction(1, 2), Fraction(0)}:
                        so = goal == turned
                        told = (other, many)
                        self.assertIs(is_raised(wheel, pair(goal), told), so and is_no_less(wheel, other, many), (wheel, told))
                        self.assertIs(is_lowered(wheel, pair(goal), told), so and is_no_more(wheel, other, many), (wheel, told))

    def test_bent(self):
        draw = random.Random(302)
        for k in range(150):
            wheel = drawn_wheel(draw, draw.randrange(1, 9), 30)
            goal = draw.choice([own for own in near(slow_turning(wheel)) if own >= slow_turning(wheel)])
            other, many = raised(wheel, pair(goal))
            at = draw.randrange(len(other))
            for way in (-1, 1):
                bent = other[:at] + (other[at] + way,) + other[at + 1:]
                so = is_wheel(bent) and slow_turning(bent) == goal and is_no_less(wheel, bent, many)
                self.assertIs(is_raised(wheel, pair(goal), (bent, many)), so, (wheel, bent))

    def test_another_m(self):
        draw = random.Random(303)
        for k in range(60):
            wheel = drawn_wheel(draw, draw.randrange(1, 9), 30)
            for goal, function, judge in (
                (slow_turning(wheel) + Fraction(1, 3), raised, is_raised), (slow_turning(wheel) - Fraction(1, 3), lowered, is_lowered),
            ):
                other, many = function(wheel, pair(goal))
                for times in (1, 2, 3):
                    self.assertIs(judge(wheel, pair(goal), (finer(other, times), many * times)), True)
                    self.assertIs(judge(wheel, pair(goal), (finer(other, times), many * times + 1)), False)
                    self.assertIs(judge(wheel, pair(goal), (finer(other, times + 1), many * times)), False)

    def test_by_one_place_too_little(self):
        # At the multiples of m alone it is asked.
        self.assertIs(is_raised(SLOW, HALF, ((1, 6, 7, 7, 7, 7), 2)), True)
        self.assertIs(is_raised((0, 0, 0), (0, 1), ((-1, -1, 0, 0, 0, 5), 2)), False)
        self.assertIs(is_raised((0, 0), (0, 1), ((0, 0, 0, 4), 2)), True)
        self.assertIs(is_raised((0, 0), (0, 1), ((-1, 0, 0, 3), 2)), False)
        self.assertIs(is_lowered((1, 1), (0, 1), ((0, 3, 3, 3), 2)), False)
        self.assertIs(is_lowered((1, 1), (0, 1), ((1, 2, 2, 4), 2)), True)

    def test_listed(self):
        for thing in ((QUICK, 3), (QUICK, 1), ((2, 3, 4, 5, 6, 7), 2), (SLOW, 1), (QUICK, 0)):
            self.assertIs(is_raised(SLOW, HALF, thing), False)
        self.assertIs(is_raised(SLOW, THIRD, (QUICK, 2)), False)
        self.assertIs(is_lowered(SLOW, HALF, (QUICK, 2)), False)

    def test_unfit_whatever_thing_is(self):
        for thing in (None, (QUICK, 2), (), [QUICK, 2]):
            for function in (is_raised, is_lowered):
                self.assertRaises(Unfit, function, (1, 0), HALF, thing)
                self.assertRaises(Unfit, function, SLOW, (2, 4), thing)

    def test_unfit_is_ahead_of_can_not(self):
        for function in (raised, lowered):
            for goal in ((10 ** 6, 2), (-4, 2), None, 1, (1, 0), (True, 1)):
                self.assertRaises(Unfit, function, SLOW, goal)
            self.assertRaises(Unfit, function, (1, 0), (-9, 1))
            self.assertRaises(Unfit, function, (), (9, 1))


def slow_is_reached(turns, train, total):
    """Whether the WHEELS turn by turns, and together by total."""
    return [slow_turning(wheel) for wheel in train] == [value(own) for own in turns] and slow_turning(slow_together(train)) == total


def contrary(turns):
    return tuple([(-above, below) for above, below in turns])


def turns_to_reach():
    """Small TURNS of one, two, three FRACTIONS, below 0 too, and drawn ones."""
    fractions = sorted({Fraction(above, below) for below in (1, 2, 3) for above in range(-below, 2 * below)})
    found = [(pair(own),) for own in fractions] + [(pair(a), pair(b)) for a in fractions for b in fractions]
    draw = random.Random(304)
    for k in range(120):
        found.append(tuple([
            pair(Fraction(draw.randrange(-20, 30), draw.randrange(1, 9))) for own in range(draw.randrange(1, 6))
        ]))
    found += [((47, 100),), ((-7, 100),), ((39, 40), (49, 50)), ((1, 12),) * 12, ((11, 12), (5, 6), (-1, 4)) * 4]
    return [turns for turns in found if slow_common(turns) <= 1000]


class Reached(unittest.TestCase):
    def most_places(self, turns):
        """k q L, q the least number at which the value is MOST."""
        common = slow_common(turns)
        values = [slow_value(turns, number) for number in range(1, common + 1)]
        return len(turns) * (values.index(max(values)) + 1) * common

    def test_reached(self):
        for turns in turns_to_reach():
            train = reached(turns)
            self.assertTrue(is_train(train))
            self.assertTrue(slow_is_reached(turns, train, slow_most(turns)), turns)
            self.assertLessEqual(len(train[0]), self.most_places(turns))
            self.assertIs(is_reached(turns, train), True)

    def test_lowest(self):
        for turns in turns_to_reach():
            train = lowest(turns)
            self.assertTrue(is_train(train))
            self.assertTrue(slow_is_reached(turns, train, -slow_most(contrary(turns))), turns)
            self.assertLessEqual(len(train[0]), self.most_places(contrary(turns)))
            self.assertIs(is_lowest(turns, train), True)

    def test_of_one_fraction(self):
        for turned in ((0, 1), (5, 1), (-3, 7), (99, 100)):
            self.assertEqual([slow_turning(own) for own in reached((turned,))], [value(turned)])
            self.assertEqual([slow_turning(own) for own in lowest((turned,))], [value(turned)])
            self.assertIs(is_lowest((turned,), reached((turned,))), True)

    def test_no_train_of_small_rings_turns_by_more(self):
        for places in (1, 2, 3):
            wheels = small_wheels(places, 0, places - 1)
            for train in itertools.product(wheels, repeat=2):
                turns = tuple([pair(slow_turning(wheel)) for wheel in train])
                total = slow_turning(slow_together(train))
                self.assertTrue(-slow_most(contrary(turns)) <= total <= slow_most(turns))
                self.assertIs(is_reached(turns, train), total == slow_most(turns))
                self.assertIs(is_lowest(turns, train), total == -slow_most(contrary(turns)))

    def test_judged_drawn(self):
        draw = random.Random(305)
        for k in range(200):
            train = drawn_train(draw, draw.randrange(1, 7), draw.randrange(1, 4), 12)
            turns = tuple([pair(slow_turning(wheel)) for wheel in train])
            self.assertIs(is_reached(turns, train), slow_is_reached(turns, train, slow_most(turns)))
            self.assertIs(is_lowest(turns, train), slow_is_reached(turns, train, -slow_most(contrary(turns))))

    def test_on_other_rings(self):
        for turns in ((HALF, THIRD), ((4, 7), (5, 9)), ((-1, 2), (0, 1), (3, 4))):
            for many in (1, 2, 5):
                self.assertIs(is_reached(turns, tuple([finer(own, many) for own in reached(turns)])), True)
                self.assertIs(is_lowest(turns, tuple([finer(own, many) for own in lowest(turns)])), True)
        self.assertIs(is_reached((HALF, THIRD), (F, G)), True)

    def test_not_reached(self):
        self.assertEqual(most((HALF, THIRD)), (1, 1))
        for turns, train in (
            ((THIRD, HALF), (F, G)), ((HALF, THIRD, THIRD), (F, G)), ((HALF, THIRD), (F, G, G)), ((HALF, THIRD), (F,)), ((HALF,), (F, G)),
            ((HALF, THIRD), (steady(6, 3), steady(6, 2))), ((HALF, THIRD), lowest((HALF, THIRD))), ((HALF, (1, 4)), (F, G)),
            ((HALF, THIRD), (F, finer(G, 2))), ((HALF, THIRD), ()), ((HALF, THIRD), None),
        ):
            self.assertIs(is_reached(turns, train), False, (turns, train))
        self.assertIs(is_lowest((HALF, THIRD), reached((HALF, THIRD))), False)
        self.assertIs(is_lowest((HALF, THIRD), (steady(6, 3), steady(6, 2))), False)

    def test_in_order(self):
        for turns in ((HALF, THIRD), ((2, 3), (1, 4), (-1, 2))):
            for mixed in itertools.permutations(turns):
                self.assertEqual([pair(slow_turning(own)) for own in reached(mixed)], list(mixed))
                self.assertEqual([pair(slow_turning(own)) for own in lowest(mixed)], list(mixed))
                self.assertIs(is_reached(turns, reached(mixed)), mixed == turns)


class TheLimit(unittest.TestCase):
    GREAT = (((1, 2001),), ((1, 69), (1, 29)), ((1, 41), (1, 53)), ((1, 2), (1, 1001)))

    def test_just_at_it(self):
        for turns in (((1, 2000),), ((1, 16), (1, 125)), ((15, 16), (-1, 125)), ((1, 54), (5, 37))):
            self.assertIn(slow_common(turns), (2000, 1998))
            self.assertTrue(slow_is_reached(turns, reached(turns), slow_most(turns)))
            self.assertTrue(slow_is_reached(turns, lowest(turns), -slow_most(contrary(turns))))
            self.assertIs(is_reached(turns, reached(turns)), True)
            self.assertIs(is_lowest(turns, lowest(turns)), True)
            self.assertIs(is_reached(turns, None), False)

    def test_just_above_it(self):
        for turns in self.GREAT:
            for function in (reached, lowest):
                self.assertRaises(TooMany, function, turns)
            for function in (is_reached, is_lowest):
                for thing in (None, (), ((0,),) * len(turns), (F, G)):
                    self.assertRaises(TooMany, function, turns, thing)

    def test_unfit_is_ahead_of_it(self):
        for turns in self.GREAT:
            for wrong in (turns + ((2, 4),), turns + (None,), ((1, 0),) + turns, turns + ((1, True),)):
                for function in (reached, lowest):
                    self.assertRaises(Unfit, function, wrong)
                for function in (is_reached, is_lowest):
                    self.assertRaises(Unfit, function, wrong, (F, G))
        self.assertRaises(Unfit, reached, ())
        self.assertRaises(Unfit, is_lowest, (), ())


if __name__ == "__main__":
    unittest.main()
