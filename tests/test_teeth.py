"""Teeth, [18]."""

import itertools
import random
import unittest
from fractions import Fraction

from bothwheels.errors import Broken, CanNot, TooMany, Unfit
from bothwheels.teeth import (
    behind_plan, fewest, fewest_plan, greater, is_fewest_plan, is_plan, lesser, plan, row_wheel, teeth, teeth_between,
    turnings_along, with_tooth,
)
from bothwheels.wheels import is_wheel
from tests.reckoning import drawn_wheel, pair, slow_turning, small_wheels, steady, told_by, value

LOW, HIGH = (0, 1, 1, 3), (0, 0, 2, 4)
HALF = (1, 2)


def changed(wheel, place, way):
    """The numbers of wheel with one at place so much more."""
    return tuple([number + way if at == place else number for at, number in enumerate(wheel)])


def slow_teeth(wheel):
    """All TEETH that can be put, ascending."""
    return tuple([
        (place, way) for place in range(len(wheel)) for way in (-1, 1) if is_wheel(changed(wheel, place, way))
    ])


def steps_from(wheel, low, high):
    """A dict of how many TEETH lead from wheel to each WHEEL with numbers from low to high: by trying all."""
    found = {wheel: 0}
    latest = [wheel]
    while latest:
        ahead = []
        for own in latest:
            for place, way in slow_teeth(own):
                behind = changed(own, place, way)
                if behind not in found and low <= behind[place] <= high:
                    found[behind] = found[own] + 1
                    ahead.append(behind)
        latest = ahead
    return found


def walked_along(wheel, told):
    """The WHEELS along a PLAN, or the number of the first TOOTH that can't be put."""
    found = [wheel]
    for at, (place, way) in enumerate(told):
        behind = changed(found[-1], place, way)
        if place >= len(wheel) or not is_wheel(behind):
            return at
        found.append(behind)
    return found


def differ(wheel, other):
    return sum([abs(a - b) for a, b in zip(wheel, other)])


def pairs(seed, many=120, size=40):
    """Pairs of drawn WHEELS of one ring; the numbers not too far apart."""
    draw = random.Random(seed)
    found = [((0,), (7,)), ((5,), (-5,)), ((0, 0), (2, 2)), (LOW, HIGH), (LOW, LOW), (steady(24, 0), steady(24, 5))]
    for k in range(many):
        places = draw.randrange(1, 13)
        found.append((drawn_wheel(draw, places, size), drawn_wheel(draw, places, size)))
    return found


class LesserAndGreater(unittest.TestCase):
    def test_place_by_place(self):
        for wheel, other in pairs(341):
            less, more = lesser(wheel, other), greater(wheel, other)
            self.assertEqual(less, told_by(len(wheel), lambda z: wheel[z] if wheel[z] < other[z] else other[z]))
            self.assertEqual(more, told_by(len(wheel), lambda z: other[z] if wheel[z] < other[z] else wheel[z]))
            self.assertTrue(is_wheel(less) and is_wheel(more))
            self.assertEqual((lesser(other, wheel), greater(other, wheel)), (less, more))

    def test_all_small(self):
        for places in (1, 2, 3):
            for wheel, other in itertools.product(small_wheels(places, -1, 1), repeat=2):
                self.assertTrue(is_wheel(lesser(wheel, other)) and is_wheel(greater(wheel, other)))

    def test_unlike_rings(self):
        for function in (lesser, greater, teeth_between, plan):
            self.assertRaises(Unfit, function, (0, 1), (0,))
            self.assertRaises(Unfit, function, (0,), (0, 1, 2))
        self.assertRaises(Unfit, is_plan, (0, 1), (0,), ())


class SingleTeeth(unittest.TestCase):
    def test_teeth(self):
        for places in (1, 2, 3, 4):
            for wheel in small_wheels(places, -1, 1):
                self.assertEqual(teeth(wheel), slow_teeth(wheel))
        for wheel, other in pairs(342):
            self.assertEqual(teeth(wheel), slow_teeth(wheel))
        self.assertEqual(teeth((7,)), ((0, -1), (0, 1)))
        self.assertEqual(teeth((0, 0)), ((0, -1), (1, 1)))

    def test_with_tooth(self):
        for places in (1, 2, 3):
            for wheel in small_wheels(places, -1, 1):
                for tooth in itertools.product(range(places + 2), (-1, 1)):
                    if tooth in slow_teeth(wheel):
                        self.assertEqual(with_tooth(wheel, tooth), changed(wheel, *tooth))
                    else:
                        self.assertRaises(CanNot, with_tooth, wheel, tooth)

    def test_no_such_place(self):
        for place in (4, 5, 10 ** 6, 10 ** 30):
            for way in (-1, 1):
                self.assertRaises(CanNot, with_tooth, LOW, (place, way))
                self.assertRaises(Broken, behind_plan, LOW, ((place, way),))

    def test_unfit_is_ahead_of_can_not(self):
        for wrong in ((9, 0), (9, 2), (-1, 1), (9,), (9, 1, 1), None, (9, True), (True, 1), (9, "1")):
            self.assertRaises(Unfit, with_tooth, LOW, wrong)
        self.assertRaises(Unfit, with_tooth, (1, 0), (9, 1))

    def test_turnings_never_fall_by_more_and_never_rise_by_less(self):
        for places in (1, 2, 3, 4):
            for wheel in small_wheels(places, -1, 1):
                for tooth in teeth(wheel):
                    before, behind = slow_turning(wheel), slow_turning(with_tooth(wheel, tooth))
                    self.assertTrue(behind >= before if tooth[1] == 1 else behind <= before)


class Plans(unittest.TestCase):
    def test_behind_and_along(self):
        draw = random.Random(343)
        for wheel, other in pairs(344):
            told = tuple([(draw.randrange(len(wheel) + 1), draw.choice((-1, 1))) for k in range(draw.randrange(6))])
            along = walked_along(wheel, told)
            if isinstance(along, list):
                self.assertEqual(behind_plan(wheel, told), along[-1])
                self.assertEqual(turnings_along(wheel, told), [pair(slow_turning(own)) for own in along])
                continue
            for function in (behind_plan, turnings_along):
                with self.assertRaises(Broken) as caught:
                    function(wheel, told)
                self.assertEqual(vars(caught.exception), {"place": along})

    def test_breaks_in_the_middle(self):
        good = ((2, 1), (3, 1), (1, -1))
        for at in range(4):
            for bad in ((9, 1), (0, 1)):
                if bad == (0, 1) and at > 0:
                    continue
                told = good[:at] + (bad,) + good[at:] + ((9, -1),)
                with self.assertRaises(Broken) as caught:
                    behind_plan((0, 0, 1, 3) if bad == (0, 1) else LOW, told)
                self.assertEqual(vars(caught.exception), {"place": at})

    def test_the_empty_plan(self):
        self.assertEqual(behind_plan(LOW, ()), LOW)
        self.assertEqual(turnings_along(LOW, []), [pair(slow_turning(LOW))])
        self.assertEqual(plan(LOW, LOW), ())
        self.assertIs(is_plan(LOW, LOW, ()), True)

    def test_unfit_is_ahead_of_broken(self):
        for wrong in (((9, 1), (0, 0)), ((9, 1), None), ((9, 1), (0,)), None, (9, 1), ((9, 1), (-1, 1)), ((9, True),)):
            self.assertRaises(Unfit, behind_plan, LOW, wrong)
            self.assertRaises(Unfit, turnings_along, LOW, wrong)

    def test_teeth_between_by_trying_all(self):
        for places in (1, 2, 3):
            wheels = small_wheels(places, 0, 1)
            for wheel in wheels:
                found = steps_from(wheel, -2, places + 3)
                for other in wheels:
                    self.assertEqual(teeth_between(wheel, other), found[other], (wheel, other))
                    self.assertEqual(teeth_between(wheel, other), differ(wheel, other))

    def test_plan(self):
        for wheel, other in pairs(345):
            told = plan(wheel, other)
            self.assertEqual(len(told), differ(wheel, other))
            self.assertEqual(teeth_between(wheel, other), differ(wheel, other))
            self.assertEqual(walked_along(wheel, told)[-1], other)
            self.assertIs(is_plan(wheel, other, told), True)
            self.assertEqual([type(own) for own in told], [tuple] * len(told))

    def test_all_small_plans(self):
        for places in (1, 2, 3):
            for wheel, other in itertools.product(small_wheels(places, -1, 1), repeat=2):
                told = plan(wheel, other)
                self.assertEqual((len(told), walked_along(wheel, told)[-1]), (differ(wheel, other), other))

    def test_is_plan_of_all_short_rows(self):
        # All rows of up to four TEETH, on a ring of two places.
        wheel, other = (0, 1), (1, 2)
        single = tuple(itertools.product((0, 1, 2), (-1, 1)))
        for many in range(5):
            for told in itertools.product(single, repeat=many):
                along = walked_along(wheel, told)
                so = many == 2 and isinstance(along, list) and along[-1] == other
                self.assertIs(is_plan(wheel, other, told), so, told)

    def test_is_plan_bent(self):
        draw = random.Random(346)
        for wheel, other in pairs(347, 60, 20):
            told = plan(wheel, other)
            if told == ():
                continue
            at = draw.randrange(len(told))
            place, way = told[at]
            for bent in (
                told[:at] + told[at + 1:], told + (told[at],), told + ((place, way), (place, -way)), told[:at] + ((place, -way),) + told[at + 1:],
                told[:at] + ((place + len(wheel), way),) + told[at + 1:], list(told), told[:at] + (list(told[at]),) + told[at + 1:], told[:at] + (None,),
            ):
                self.assertIs(is_plan(wheel, other, bent), False)
            mixed = list(told)
            draw.shuffle(mixed)
            self.assertIs(is_plan(wheel, other, tuple(mixed)), isinstance(walked_along(wheel, mixed), list))

    def test_just_2000_teeth_and_more(self):
        self.assertEqual(plan((0,), (2000,)), ((0, 1),) * 2000)
        self.assertEqual(plan((5,), (-1995,)), ((0, -1),) * 2000)
        self.assertEqual(walked_along((0, 1), plan((0, 1), (1000, 1001)))[-1], (1000, 1001))
        self.assertEqual(len(plan(steady(20, 0), steady(20, 100))), 2000)
        for wheel, other in (((0,), (2001,)), ((0,), (-2001,)), ((0, 1), (1000, 1002)), (steady(24, 0), steady(24, 10 ** 6))):
            self.assertGreater(teeth_between(wheel, other), 2000)
            self.assertRaises(TooMany, plan, wheel, other)
            self.assertIs(is_plan(wheel, other, ()), False)
        self.assertEqual(teeth_between(steady(24, -10 ** 6), steady(24, 10 ** 6)), 48 * 10 ** 6)
        self.assertIs(is_plan((0,), (2001,), ((0, 1),) * 2001), True)
        self.assertIs(is_plan((0,), (2001,), ((0, 1),) * 2000), False)

    def test_unfit_is_ahead_of_too_many(self):
        self.assertRaises(Unfit, plan, (0,), (2001, 2001))
        self.assertRaises(Unfit, plan, (1, 0), (2001, 2001))
        self.assertRaises(Unfit, plan, (0,), ())


def slow_row_wheel(row, goal, ring):
    """The WHEEL that leads z to the greatest X(i + p) with X(i) at most z, over many i."""
    p, q = goal
    told = {i: row[i % q] + i // q * ring for i in range(-3 * q - abs(p) - 1, 3 * q + abs(p) + 1)}
    return told_by(ring, lambda z: max([
        row[(i + p) % q] + (i + p) // q * ring for i in told if told[i] <= z
    ]))


def rising(ring, many):
    return list(itertools.combinations_with_replacement(range(ring), many))


GOALS = tuple([pair(own) for own in sorted({Fraction(p, q) for q in (1, 2, 3) for p in range(-q, 2 * q + 1)})])


class Rows(unittest.TestCase):
    def test_row_wheel(self):
        for ring in (1, 2, 3, 4):
            for goal in GOALS:
                for row in rising(ring, goal[1]):
                    told = row_wheel(row, goal, ring)
                    self.assertEqual(told, slow_row_wheel(row, goal, ring))
                    self.assertTrue(is_wheel(told))
                    self.assertGreaterEqual(slow_turning(told), value(goal))

    def test_greater_ones(self):
        draw = random.Random(348)
        for k in range(150):
            ring = draw.randrange(1, 25)
            goal = pair(Fraction(draw.randrange(-40, 60), draw.randrange(1, 12)))
            row = tuple(sorted([draw.randrange(ring) for own in range(goal[1])]))
            self.assertEqual(row_wheel(row, goal, ring), slow_row_wheel(row, goal, ring))
        self.assertEqual(row_wheel((0,), (10 ** 6, 1), 1), (10 ** 6,))

    def test_each_wheel_that_turns_so_is_at_least_one_of_them(self):
        for places in (1, 2, 3):
            for wheel in small_wheels(places, -2, 2):
                for goal in GOALS:
                    told = [row_wheel(row, goal, places) for row in rising(places, goal[1])]
                    at_least = any([all([a >= b for a, b in zip(wheel, own)]) for own in told])
                    self.assertIs(at_least, slow_turning(wheel) >= value(goal), (wheel, goal))

    def test_unfit(self):
        for row in ((), (0,), (0, 1, 2), (1, 0), (-1, 0), (0, 4), (0, True), None, "01", (0, None), 0):
            self.assertRaises(Unfit, row_wheel, row, HALF, 4)
        for goal in ((2, 4), (1, 3), None, (1, 0), 1, (1, True)):
            self.assertRaises(Unfit, row_wheel, (0, 2), goal, 4)
        for ring in (0, -1, None, True, "4", 1.0, 2, (4,)):
            self.assertRaises(Unfit, row_wheel, (0, 2), HALF, ring)
        self.assertEqual(row_wheel([0, 2], [1, 2], 3), row_wheel((0, 2), HALF, 3))


class Fewest(unittest.TestCase):
    def test_by_trying_all(self):
        for places in (1, 2, 3):
            for wheel in small_wheels(places, -1, 0):
                found = steps_from(wheel, -3, 2 * places + 3)
                for goal in GOALS:
                    told = min([many for own, many in found.items() if slow_turning(own) >= value(goal)])
                    self.assertEqual(fewest(wheel, goal), told, (wheel, goal))

    def test_fewest_plan(self):
        draw = random.Random(349)
        for k in range(80):
            wheel = drawn_wheel(draw, draw.randrange(1, 9), 9)
            goal = pair(Fraction(draw.randrange(-6, 9), draw.randrange(1, 5)))
            told = fewest_plan(wheel, goal)
            self.assertEqual(len(told), fewest(wheel, goal))
            self.assertEqual([way for place, way in told], [1] * len(told))
            self.assertGreaterEqual(slow_turning(walked_along(wheel, told)[-1]), value(goal))
            self.assertIs(is_fewest_plan(wheel, goal, told), True)
            if told:
                self.assertLess(slow_turning(walked_along(wheel, told[:-1])[-1]), value(goal))

    def test_goals_already_reached(self):
        for wheel in small_wheels(3, -1, 1) + [(0,), (7,), steady(8, 2)]:
            turned = slow_turning(wheel)
            for goal in (pair(turned), pair(turned - Fraction(1, 2)), pair(turned - 5)):
                self.assertEqual((fewest(wheel, goal), fewest_plan(wheel, goal)), (0, ()))
                self.assertIs(is_fewest_plan(wheel, goal, ()), True)
                self.assertIs(is_fewest_plan(wheel, goal, teeth(wheel)[:1]), False)

    def test_is_fewest_plan_of_all_short_rows(self):
        wheel = (0, 0)
        single = tuple(itertools.product((0, 1, 2), (-1, 1)))
        for goal in (HALF, (0, 1), (1, 1)):
            least = fewest(wheel, goal)
            for many in range(5):
                for told in itertools.product(single, repeat=many):
                    along = walked_along(wheel, told)
                    so = many == least and isinstance(along, list) and slow_turning(along[-1]) >= value(goal)
                    self.assertIs(is_fewest_plan(wheel, goal, told), so, (goal, told))

    def test_n_at_8_and_above(self):
        at, above = (0,) * 8, (0,) * 9
        told = fewest_plan(at, HALF)
        self.assertIs(is_fewest_plan(at, HALF, told), True)
        self.assertEqual(len(told), fewest(at, HALF))
        for function in (fewest, fewest_plan):
            self.assertRaises(TooMany, function, above, HALF)
            self.assertRaises(TooMany, function, above, (0, 1))
        for thing in (None, (), ((8, 1),)):
            self.assertRaises(TooMany, is_fewest_plan, above, (0, 1), thing)

    def test_q_at_6_and_above(self):
        wheel = (0, 0, 1)
        for goal in ((1, 6), (5, 6), (-7, 6)):
            told = fewest_plan(wheel, goal)
            self.assertEqual(len(told), fewest(wheel, goal))
            self.assertGreaterEqual(slow_turning(walked_along(wheel, told)[-1]), value(goal))
        for goal in ((1, 7), (-6, 7), (10 ** 6, 7)):
            for function in (fewest, fewest_plan):
                self.assertRaises(TooMany, function, wheel, goal)
            self.assertRaises(TooMany, is_fewest_plan, wheel, goal, ())

    def test_at_both_limits(self):
        wheel = (0, 0, 2, 2, 2, 3, 7, 8)
        told = fewest_plan(wheel, (5, 6))
        self.assertEqual(len(told), fewest(wheel, (5, 6)))
        self.assertGreaterEqual(slow_turning(walked_along(wheel, told)[-1]), Fraction(5, 6))

    def test_unfit_is_ahead_of_too_many(self):
        for function in (fewest, fewest_plan):
            self.assertRaises(Unfit, function, (0,) * 9, (2, 4))
            self.assertRaises(Unfit, function, (9,) * 8 + (8,), HALF)
            self.assertRaises(Unfit, function, (), (1, 7))
            self.assertRaises(Unfit, function, (0,), (7, 14))
        self.assertRaises(Unfit, is_fewest_plan, (0,) * 9, None, ())
        self.assertRaises(Unfit, is_fewest_plan, (), (1, 7), ())

    def test_just_2000_teeth_and_more(self):
        self.assertEqual(fewest_plan((0,), (2000, 1)), ((0, 1),) * 2000)
        self.assertEqual(fewest((0,), (2001, 1)), 2001)
        self.assertRaises(TooMany, fewest_plan, (0,), (2001, 1))
        self.assertIs(is_fewest_plan((0,), (2001, 1), ((0, 1),) * 2001), True)
        self.assertIs(is_fewest_plan((0,), (2001, 1), ((0, 1),) * 2000), False)
        self.assertEqual(len(fewest_plan((0, 1), (500, 1))), 1999)
        self.assertRaises(TooMany, fewest_plan, (0, 1), (501, 1))
        self.assertEqual(fewest(steady(8, 0), (10 ** 6, 1)), 64 * 10 ** 6 - 28)
        self.assertIs(is_fewest_plan(steady(8, 0), (10 ** 6, 1), ()), False)


if __name__ == "__main__":
    unittest.main()
