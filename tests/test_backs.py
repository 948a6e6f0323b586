"""Backs, [9]."""

import random
import unittest

from bothwheels.backs import back_train, first_back, is_back_pair, last_back, mirrored, mirrored_train
from bothwheels.errors import Unfit
from bothwheels.wheels import is_train, is_wheel, put_together
from tests.reckoning import (
    SMALL, a_mix, drawn_train, drawn_wheel, led_at_once, pair, slow_together, slow_turning, small_wheels, steady, told_by,
)


def from_far(wheel, number):
    """A range of numbers: the first is led below number, the last beyond it."""
    near = number - wheel[0]
    return range(near - 2 * len(wheel) - 1, near + 2 * len(wheel) + 2)


def slow_first(wheel, number):
    """The first number led to number or beyond."""
    return min([own for own in from_far(wheel, number) if led_at_once(wheel, own) >= number])


def slow_last(wheel, number):
    """The last number led to number or not so far."""
    return max([own for own in from_far(wheel, number) if led_at_once(wheel, own) <= number])


class ByTheirWords(unittest.TestCase):
    def check(self, wheel):
        places = len(wheel)
        self.assertEqual(first_back(wheel), told_by(places, lambda z: slow_first(wheel, z)), wheel)
        self.assertEqual(last_back(wheel), told_by(places, lambda z: slow_last(wheel, z)), wheel)
        self.assertEqual(mirrored(wheel), told_by(places, lambda z: -led_at_once(wheel, -z)), wheel)

    def test_the_ranges_are_wide_enough(self):
        for wheel in SMALL[::5]:
            for number in range(-5, 6):
                span = from_far(wheel, number)
                self.assertLess(led_at_once(wheel, span[0]), number)
                self.assertGreater(led_at_once(wheel, span[-1]), number)

    def test_all_small(self):
        for wheel in SMALL:
            self.check(wheel)

    def test_a_mix(self):
        for wheel in a_mix(121):
            self.check(wheel)

    def test_they_are_wheels(self):
        for wheel in a_mix(122):
            for told in (first_back(wheel), last_back(wheel), mirrored(wheel)):
                self.assertTrue(is_wheel(told))
                self.assertEqual(len(told), len(wheel))

    def test_listed(self):
        self.assertEqual([first_back((own,)) for own in (0, 5, -5)], [(0,), (-5,), (5,)])
        self.assertEqual([last_back((own,)) for own in (0, 5, -5)], [(0,), (-5,), (5,)])
        self.assertEqual([mirrored((own,)) for own in (0, 5, -5)], [(0,), (-5,), (5,)])
        self.assertEqual((first_back((0, 0)), last_back((0, 0)), mirrored((0, 0))), ((0, 2), (1, 1), (0, 2)))
        self.assertEqual((first_back((1, 1)), last_back((1, 1)), mirrored((1, 1))), ((0, 0), (-1, 1), (-1, 1)))
        self.assertEqual(first_back((10 ** 6,) * 24), (-999984,) * 17 + (-999960,) * 7)


class HowTheyLieToEachOther(unittest.TestCase):
    def test_at_or_beyond_exactly_from_there_on(self):
        draw = random.Random(123)
        for wheel in a_mix(124, 60):
            first, last = first_back(wheel), last_back(wheel)
            for k in range(10):
                x, z = draw.randrange(-60, 60), draw.randrange(-60, 60)
                self.assertIs(led_at_once(wheel, x) >= z, x >= led_at_once(first, z))
                self.assertIs(led_at_once(wheel, x) <= z, x <= led_at_once(last, z))

    def test_back_of_the_back(self):
        for wheel in SMALL + a_mix(125):
            self.assertEqual(last_back(first_back(wheel)), wheel)
            self.assertEqual(first_back(last_back(wheel)), wheel)
            on = told_by(len(wheel), lambda z: led_at_once(wheel, z - 1) + 1)
            self.assertEqual(first_back(first_back(wheel)), on)

    def test_mirrored(self):
        for wheel in SMALL + a_mix(126):
            self.assertEqual(mirrored(mirrored(wheel)), wheel)
            self.assertEqual(mirrored(first_back(wheel)), last_back(mirrored(wheel)))

    def test_they_turn_by_the_contrary(self):
        for wheel in SMALL + a_mix(127):
            contrary = pair(-slow_turning(wheel))
            for told in (first_back(wheel), last_back(wheel), mirrored(wheel)):
                self.assertEqual(pair(slow_turning(told)), contrary)

    def test_of_shifts(self):
        for places in (1, 2, 7, 24):
            for steps in (-10 ** 6, -25, -1, 0, 1, 24, 10 ** 6):
                wheel, back = steady(places, steps), steady(places, -steps)
                self.assertEqual((first_back(wheel), last_back(wheel), mirrored(wheel)), (back, back, back))


class Trains(unittest.TestCase):
    def test_back_train(self):
        draw = random.Random(128)
        for k in range(200):
            train = drawn_train(draw, draw.randrange(1, 25), draw.randrange(1, 6))
            told = back_train(train)
            self.assertTrue(is_train(told))
            self.assertEqual(told, tuple([first_back(wheel) for wheel in train[::-1]]))
            self.assertEqual(slow_together(told), first_back(slow_together(train)))

    def test_mirrored_train(self):
        draw = random.Random(129)
        for k in range(200):
            train = drawn_train(draw, draw.randrange(1, 25), draw.randrange(1, 6))
            told = mirrored_train(train)
            self.assertTrue(is_train(told))
            self.assertEqual(told, tuple([mirrored(wheel) for wheel in train]))
            self.assertEqual(put_together(told), mirrored(put_together(train)))

    def test_all_small_pairs(self):
        for places in (1, 2, 3):
            wheels = small_wheels(places, -1, 2)
            for wheel in wheels:
                for other in wheels:
                    back = slow_together(back_train((wheel, other)))
                    self.assertEqual(back, told_by(places, lambda z: slow_first(slow_together((wheel, other)), z)))

    def test_of_one(self):
        self.assertEqual(back_train(((1, 1, 4, 4),)), ((-2, 0, 2, 2),))
        self.assertEqual(mirrored_train(((1, 1, 4, 4),)), ((-1, 0, 0, 3),))


class BackPairs(unittest.TestCase):
    def test_is_back_pair(self):
        for places in (1, 2, 3):
            wheels = small_wheels(places, -2, 2)
            for wheel in wheels:
                for other in wheels:
                    told = all([other[z] == slow_first(wheel, z) for z in range(places)])
                    self.assertIs(is_back_pair(wheel, other), told)

    def test_all_but_at_one_place(self):
        draw = random.Random(130)
        for k in range(60):
            wheel = drawn_wheel(draw, draw.randrange(2, 25), 60)
            back = first_back(wheel)
            self.assertIs(is_back_pair(wheel, back), True)
            for at in range(len(back)):
                for away in (1, -1):
                    near = back[:at] + (back[at] + away,) + back[at + 1:]
                    if is_wheel(near):
                        self.assertIs(is_back_pair(wheel, near), False)

    def test_of_unlike_rings(self):
        self.assertIs(is_back_pair((1, 1, 4, 4), (0,)), False)
        self.assertIs(is_back_pair((0,), (0, 1)), False)
        self.assertIs(is_back_pair((0, 1), (0,)), False)
        self.assertIs(is_back_pair((0, 1), (0, 1, 2)), False)

    def test_no_wheels(self):
        self.assertRaises(Unfit, is_back_pair, (0, 1), (1, 0))
        self.assertRaises(Unfit, is_back_pair, (1, 0), (0,))
        self.assertRaises(Unfit, is_back_pair, (0, 1), ())


if __name__ == "__main__":
    unittest.main()
