"""Wheels, [6]."""

import itertools
import random
import unittest

from bothwheels.errors import CanNot, Unfit
from bothwheels.wheels import (
    finer, from_elsewhere, is_at_most, is_shift, is_train, is_wheel, leads, led_from, led_places, power, put_together,
    shift, slips_of, steps_of,
)
from tests.reckoning import SMALL, drawn, drawn_wheel, led_at_once, slow_power, small_wheels, told_by, walked


class WhatIsAWheel(unittest.TestCase):
    def test_all_small_tuples(self):
        for places in (1, 2, 3):
            for numbers in itertools.product(range(-3, 6), repeat=places):
                steps = [further - number for number, further in zip(numbers, numbers[1:])]
                told = all([step >= 0 for step in steps]) and numbers[-1] <= numbers[0] + places
                self.assertIs(is_wheel(numbers), told, numbers)

    def test_the_list_above_is_all(self):
        for places in (1, 2, 3):
            told = [own for own in itertools.product(range(-9, 10), repeat=places) if is_wheel(own) and abs(own[0]) <= 2]
            self.assertEqual(sorted(small_wheels(places, -2, 2)), sorted(told))

    def test_its_edges(self):
        self.assertTrue(is_wheel((0, 0, 0, 0, 4)))
        self.assertTrue(is_wheel((0, 5, 5, 5, 5)))
        self.assertFalse(is_wheel((0, 6, 6, 6, 6)))
        self.assertFalse(is_wheel((0, 0, 0, 0, 6)))
        self.assertFalse(is_wheel((0, 1, 2, 1, 2)))
        self.assertFalse(is_wheel((0, 4, 2)))
        self.assertTrue(is_wheel(tuple(range(24))))
        self.assertTrue(is_wheel(tuple(range(40))))
        self.assertTrue(is_wheel((10 ** 6,) * 24))
        self.assertTrue(is_wheel((-10 ** 6,) * 23 + (24 - 10 ** 6,)))
        self.assertFalse(is_wheel((-10 ** 6,) * 23 + (25 - 10 ** 6,)))

    def test_trains(self):
        self.assertTrue(is_train(((0,),)))
        self.assertTrue(is_train(((0, 1),) * 5))
        self.assertTrue(is_train(((0, 1),) * 9))
        self.assertFalse(is_train(((0, 1),) * 4 + ((0, 3),)))
        self.assertFalse(is_train(((0, 1), (0, 1, 2), (0, 1))))
        self.assertFalse(is_train(((0, 1), (0,))))
        self.assertFalse(is_train(((0,), (0, 1))))


class Leads(unittest.TestCase):
    def test_small(self):
        for wheel in SMALL:
            for number in range(-9, 10):
                self.assertEqual(leads(wheel, number), walked(wheel, number), (wheel, number))

    def test_drawn(self):
        draw = random.Random(11)
        for k in range(500):
            wheel, number = drawn(draw), draw.randrange(-300, 301)
            self.assertEqual(leads(wheel, number), walked(wheel, number))

    def test_great(self):
        self.assertEqual(leads((1, 1, 3), 10 ** 6), 10 ** 6)
        self.assertEqual(leads((1, 1, 3), -10 ** 6), -10 ** 6 + 1)
        self.assertEqual(leads((1, 1, 3), 3 * 10 ** 40 + 2), 3 * 10 ** 40 + 3)
        self.assertEqual(leads((10 ** 6, 10 ** 6), -1), 10 ** 6 - 2)
        self.assertEqual(leads((-10 ** 6,), 10 ** 6), 0)

    def test_in_order_and_rounds_apart(self):
        draw = random.Random(12)
        for k in range(500):
            wheel = drawn(draw)
            number, further = sorted([draw.randrange(-100, 101), draw.randrange(-100, 101)])
            self.assertLessEqual(leads(wheel, number), leads(wheel, further))
            self.assertEqual(leads(wheel, number + len(wheel)), leads(wheel, number) + len(wheel))


class Shifts(unittest.TestCase):
    def test_shift(self):
        for places in range(1, 30):
            for steps in (-10 ** 6, -places, -1, 0, 1, 5, places, 10 ** 6, 10 ** 30):
                wheel = shift(places, steps)
                self.assertEqual(wheel, told_by(places, lambda place: place + steps))
                self.assertIs(is_shift(wheel), True)
                self.assertEqual(steps_of(wheel), steps)
                self.assertTrue(is_wheel(wheel))

    def test_is_shift(self):
        for wheel in SMALL:
            told = any([all([leads(wheel, z) == z + m for z in range(-4, 9)]) for m in range(-9, 10)])
            self.assertIs(is_shift(wheel), told, wheel)
            if told:
                self.assertEqual(steps_of(wheel), wheel[0])
            else:
                self.assertRaises(CanNot, steps_of, wheel)

    def test_it_slips_nowhere_exactly_then(self):
        draw = random.Random(13)
        for wheel in SMALL + [drawn(draw) for k in range(200)]:
            self.assertIs(is_shift(wheel), slips_of(wheel) == ())

    def test_nearly(self):
        for places in (2, 3, 24):
            for place in range(places):
                for away in (1, -1):
                    told = list(shift(places, 7))
                    told[place] += away
                    self.assertFalse(is_shift(told))
                    self.assertRaises(CanNot, steps_of, told)


class PutTogether(unittest.TestCase):
    def check(self, train, led_by=walked):
        together = put_together(train)
        self.assertTrue(is_wheel(together))
        for number in range(-len(train[0]), 2 * len(train[0])):
            led = number
            for wheel in reversed(train):
                led = led_by(wheel, led)
            self.assertEqual(led_by(together, number), led, train)

    def test_of_one(self):
        for wheel in SMALL:
            self.assertEqual(put_together((wheel,)), wheel)

    def test_all_small_pairs(self):
        for places in (1, 2, 3):
            told = small_wheels(places, -2, 2)
            for wheel in told:
                for other in told:
                    self.check((wheel, other))

    def test_drawn(self):
        draw = random.Random(14)
        for k in range(300):
            places = draw.randrange(1, 25)
            self.check(tuple([drawn_wheel(draw, places, 80) for own in range(draw.randrange(1, 8))]))

    def test_great_numbers(self):
        draw = random.Random(15)
        for k in range(50):
            self.check(tuple([drawn_wheel(draw, 24, 10 ** 6) for own in range(5)]), led_at_once)

    def test_the_last_leads_first(self):
        self.assertEqual(put_together(((0, 0), (1, 2))), (0, 2))
        self.assertEqual(put_together(((1, 2), (0, 0))), (1, 1))
        self.assertEqual(put_together(((1, 1, 3), (0, 2, 3), (1, 2, 3))), (3, 4, 4))

    def test_any_two_neighbours_first(self):
        draw = random.Random(16)
        for k in range(200):
            places = draw.randrange(1, 25)
            train = tuple([drawn_wheel(draw, places, 80) for own in range(draw.randrange(2, 7))])
            for place in range(len(train) - 1):
                pair = put_together(train[place:place + 2])
                self.assertEqual(put_together(train[:place] + (pair,) + train[place + 2:]), put_together(train))


class Power(unittest.TestCase):
    def test_small(self):
        for wheel in SMALL[::3]:
            for beats in range(8):
                self.assertEqual(power(wheel, beats), slow_power(wheel, beats), (wheel, beats))

    def test_drawn(self):
        draw = random.Random(17)
        for k in range(100):
            wheel, beats = drawn(draw), draw.randrange(70)
            self.assertEqual(power(wheel, beats), slow_power(wheel, beats), (wheel, beats))

    def test_of_no_beats_is_the_shift_by_0(self):
        draw = random.Random(18)
        for wheel in SMALL[::5] + [drawn(draw) for k in range(50)]:
            self.assertEqual(power(wheel, 0), shift(len(wheel), 0))
            self.assertEqual(power(wheel, 1), wheel)

    def test_beats_and_more_beats(self):
        draw = random.Random(19)
        for k in range(150):
            wheel = drawn(draw)
            some, more = draw.randrange(10 ** draw.randrange(1, 31)), draw.randrange(10 ** draw.randrange(1, 31))
            self.assertEqual(power(wheel, some + more), put_together((power(wheel, some), power(wheel, more))))

    def test_great_beats(self):
        great = 10 ** 30
        self.assertEqual(power(shift(5, 3), great), shift(5, 3 * great))
        self.assertEqual(power((-4, -4, -4), great), (-6 * great + 2,) * 3)
        self.assertEqual(power((2, 2, 4, 5, 6, 6), 3 * great), (6 * great, 6 * great) + (6 * great + 2,) * 2 + (6 * great + 4,) * 2)
        self.assertEqual(power((1, 1, 3), 10 ** 500), (1, 1, 4))
        self.assertEqual(power((3,), 10 ** 500), (3 * 10 ** 500,))

    def test_how_great_its_numbers_are(self):
        draw = random.Random(20)
        for k in range(300):
            wheel, beats = drawn(draw, draw.choice((25, 100, 10 ** 6))), draw.choice((1, 2, 3, 17, 10 ** 6, 10 ** 30))
            most = beats * (max([abs(number) for number in wheel]) + len(wheel)) + len(wheel)
            self.assertLessEqual(max([abs(number) for number in power(wheel, beats)]), most)


class Rings(unittest.TestCase):
    def test_finer(self):
        for wheel in SMALL:
            for many in (1, 2, 3, 5):
                fine = finer(wheel, many)
                self.assertTrue(is_wheel(fine))
                self.assertEqual(len(fine), many * len(wheel))
                for number in range(-2 * many * len(wheel), 2 * many * len(wheel)):
                    self.assertEqual(walked(fine, number), many * walked(wheel, number // many))

    def test_finer_at_its_bounds(self):
        draw = random.Random(21)
        for many in (59, 60, 61, 100):
            wheel = drawn_wheel(draw, 24, 10 ** 6)
            fine = finer(wheel, many)
            self.assertEqual(fine, tuple([many * wheel[x] for x in range(24) for j in range(many)]))
        self.assertEqual(finer((-1, 0), 2), (-2, -2, 0, 0))

    def test_finer_beat_by_beat(self):
        draw = random.Random(22)
        for k in range(100):
            wheel, many, beats = drawn(draw), draw.randrange(1, 6), draw.randrange(1, 9)
            self.assertEqual(power(finer(wheel, many), beats), finer(power(wheel, beats), many))

    def test_from_elsewhere(self):
        for wheel in SMALL:
            for number in range(-7, 8):
                told = from_elsewhere(wheel, number)
                self.assertTrue(is_wheel(told))
                self.assertEqual(told, told_by(len(wheel), lambda place: walked(wheel, place + number) - number))

    def test_from_elsewhere_and_back(self):
        draw = random.Random(23)
        for k in range(300):
            wheel, number, more = drawn(draw), draw.randrange(-10 ** 6, 10 ** 6), draw.randrange(-50, 50)
            self.assertEqual(from_elsewhere(from_elsewhere(wheel, number), -number), wheel)
            self.assertEqual(from_elsewhere(from_elsewhere(wheel, number), more), from_elsewhere(wheel, number + more))
            self.assertEqual(from_elsewhere(wheel, 3 * len(wheel)), wheel)
            self.assertEqual(from_elsewhere(wheel, 0), wheel)
            self.assertEqual(from_elsewhere(power(wheel, 5), number), power(from_elsewhere(wheel, number), 5))


class Compared(unittest.TestCase):
    def test_is_at_most(self):
        for places in (1, 2, 3):
            told = small_wheels(places, -2, 2)
            for wheel in told:
                for other in told:
                    at_most = all([walked(wheel, z) <= walked(other, z) for z in range(places)])
                    self.assertIs(is_at_most(wheel, other), at_most, (wheel, other))

    def test_at_one_place_alone(self):
        wheel = shift(6, 3)
        for place in range(6):
            other = wheel[:place] + (wheel[place] - 1,) + wheel[place + 1:]
            self.assertIs(is_at_most(other, wheel), True)
            self.assertIs(is_at_most(wheel, other), False)
        self.assertIs(is_at_most(wheel, wheel), True)

    def test_of_other_rings(self):
        for wheel, other in (((1, 1), (1, 1, 3)), ((1, 1, 3), (1, 1)), ((5,), (9, 9)), ((9, 9), (5,)), (shift(24, 0), shift(23, 9))):
            self.assertRaises(Unfit, is_at_most, wheel, other)


class Sets(unittest.TestCase):
    def check(self, wheel):
        places = len(wheel)
        slips = [x for x in range(places) if walked(wheel, x + 1) == walked(wheel, x)]
        self.assertEqual(slips_of(wheel), tuple(slips))
        led = {walked(wheel, z) % places for z in range(-places, 2 * places)}
        self.assertEqual(led_places(wheel), tuple(sorted(led)))
        for number in range(-places - 1, places + 2):
            from_there = led_from(wheel, number)
            far = range(number - wheel[0] - 2 * places, number - wheel[0] + 2 * places + 1)
            self.assertEqual(from_there, tuple([z for z in far if walked(wheel, z) == number]))
            self.assertLessEqual(len(from_there), places)

    def test_small(self):
        for wheel in SMALL:
            self.check(wheel)

    def test_drawn(self):
        draw = random.Random(24)
        for k in range(150):
            self.check(drawn(draw))

    def test_listed(self):
        self.assertEqual(slips_of((0, 0, 0)), (0, 1))
        self.assertEqual(slips_of((0, 3, 3)), (1, 2))
        self.assertEqual(slips_of((0, 1, 3)), (2,))
        self.assertEqual(led_places((-1, 0, 0)), (0, 2))
        self.assertEqual(led_from((0, 3, 3), 3), (1, 2, 3))
        self.assertEqual(led_from((0, 0, 0), 1), ())
        self.assertEqual(led_from((0, 0, 0), -3), (-3, -2, -1))
        self.assertEqual(led_from((7,), 7), (0,))

    def test_great(self):
        self.assertEqual(led_from((10 ** 6,) * 24, -10 ** 6 + 8), tuple(range(8 - 2 * 10 ** 6, 32 - 2 * 10 ** 6)))
        self.assertEqual(led_from((1, 1), 10 ** 40 + 1), (10 ** 40, 10 ** 40 + 1))
        self.assertEqual(led_places((-10 ** 6,) * 24), (-10 ** 6 % 24,))
        self.assertEqual(slips_of((10 ** 6,) * 24), tuple(range(23)))


class AllAreWheels(unittest.TestCase):
    def test_what_comes_of_all_is_a_wheel(self):
        draw = random.Random(25)
        for k in range(200):
            wheel = drawn(draw)
            other = drawn_wheel(draw, len(wheel), 90)
            for told in (put_together((wheel, other)), power(wheel, k), finer(wheel, 1 + k % 7), from_elsewhere(wheel, k - 100)):
                self.assertIs(type(told), tuple)
                self.assertTrue(is_wheel(told))


if __name__ == "__main__":
    unittest.main()
