"""Led places, [10]."""

import itertools
import math
import random
import unittest

from bothwheels.backs import first_back, last_back
from bothwheels.errors import CanNot, TooMany, Unfit
from bothwheels.led import (
    first_at_least, greatest_led, is_led_by, last_at, least_led, led_by, many_led, told_on, wheel_between,
)
from bothwheels.wheels import is_at_most, is_wheel, put_together
from tests.reckoning import (
    SMALL, a_mix, all_places, drawn_places, led_at_once, pair, placed, placed_at_once, slow_turning,
    small_wheels, steady, told_by,
)

FEW = (0, 2, 3)


def told_far(places, ring, rounds):
    """The dict of places told on, by number, from so many rounds ahead to so many behind."""
    many = len(places)
    return {
        at + many * away: place + ring * away
        for away in range(-rounds, rounds + 1) for at, place in enumerate(places)
    }


def all_led(places, number, ring):
    """All WHEELS that lead places by number, ascending: chosen from all that lead the first one so."""
    goals = [placed(places, ring, at + number) for at in range(len(places))]
    # Each number lies within a round of where the first of places is led.
    low = goals[0] - ring
    return [
        wheel for wheel in itertools.product(range(low, low + 2 * ring + 1), repeat=ring)
        if is_wheel(wheel) and [wheel[place] for place in places] == goals
    ]


def rising(many, first, last):
    """All rows of so many numbers from first to last, none below the one ahead of it."""
    return list(itertools.combinations_with_replacement(range(first, last + 1), many))


def all_led_between(places, number, ring):
    """As all_led, neighbour by neighbour, for greater rings."""
    choices = []
    for at, place in enumerate(places):
        low, high = placed(places, ring, at + number), placed(places, ring, at + number + 1)
        gap = placed(places, ring, at + 1) - place
        choices.append([(low,) + row for row in rising(gap - 1, low, high)])
    found = []
    for chosen in itertools.product(*choices):
        row = sum(chosen, ())
        told = {places[0] + at: to for at, to in enumerate(row)}
        found.append(tuple([told[z] if z in told else told[z + ring] - ring for z in range(ring)]))
    return sorted(found)


class ToldOn(unittest.TestCase):
    def test_small(self):
        for ring in range(1, 6):
            for places in all_places(ring):
                told = told_far(places, ring, 4)
                for number in range(-3 * len(places), 3 * len(places) + 1):
                    self.assertEqual(told_on(places, ring, number), told[number])
                for number in range(-2 * ring, 2 * ring + 1):
                    last = max([at for at in told if told[at] <= number])
                    first = min([at for at in told if told[at] >= number])
                    self.assertEqual(last_at(places, ring, number), last)
                    self.assertEqual(first_at_least(places, ring, number), first)

    def test_drawn(self):
        draw = random.Random(141)
        for k in range(200):
            ring = draw.randrange(1, 25)
            places = drawn_places(draw, ring)
            told = told_far(places, ring, 6)
            number = draw.randrange(-4 * ring, 4 * ring)
            self.assertEqual(last_at(places, ring, number), max([at for at in told if told[at] <= number]))
            self.assertEqual(first_at_least(places, ring, number), min([at for at in told if told[at] >= number]))
            at = draw.randrange(-5 * len(places), 5 * len(places))
            self.assertEqual(told_on(places, ring, at), told[at])

    def test_there_and_back(self):
        draw = random.Random(142)
        for k in range(200):
            ring = draw.randrange(1, 25)
            places = drawn_places(draw, ring)
            at = draw.randrange(-10 ** 6, 10 ** 6)
            number = told_on(places, ring, at)
            self.assertEqual((last_at(places, ring, number), first_at_least(places, ring, number)), (at, at))
            self.assertEqual((last_at(places, ring, number - 1), first_at_least(places, ring, number + 1)), (at - 1, at + 1))

    def test_great(self):
        self.assertEqual(told_on((23,), 24, 10 ** 6), 23 + 24 * 10 ** 6)
        self.assertEqual(told_on(FEW, 5, -3 * 10 ** 30), -5 * 10 ** 30)
        self.assertEqual(last_at(FEW, 5, 5 * 10 ** 30 + 1), 3 * 10 ** 30)
        self.assertEqual(first_at_least(FEW, 5, 1 - 5 * 10 ** 30), 1 - 3 * 10 ** 30)

    def test_of_all_places(self):
        for number in range(-9, 10):
            told = (told_on((0, 1, 2), 3, number), last_at((0, 1, 2), 3, number), first_at_least((0, 1, 2), 3, number))
            self.assertEqual(told, (number,) * 3)


class GreatestAndLeast(unittest.TestCase):
    def test_by_their_words(self):
        for ring in range(1, 6):
            for places in all_places(ring):
                told = told_far(places, ring, 4)
                for number in range(-len(places) - 1, len(places) + 2):
                    greatest = told_by(ring, lambda z: told[number + min([at for at in told if told[at] >= z])])
                    least = told_by(ring, lambda z: told[number + max([at for at in told if told[at] <= z])])
                    self.assertEqual(greatest_led(places, number, ring), greatest)
                    self.assertEqual(least_led(places, number, ring), least)

    def test_they_are_the_greatest_and_the_least(self):
        for ring in range(1, 5):
            for places in all_places(ring):
                for number in range(-2, 4):
                    wheels = all_led(places, number, ring)
                    greatest, least = greatest_led(places, number, ring), least_led(places, number, ring)
                    self.assertIn(greatest, wheels)
                    self.assertIn(least, wheels)
                    for wheel in wheels:
                        self.assertTrue(is_at_most(least, wheel) and is_at_most(wheel, greatest))

    def drawn(self, seed, many=200):
        draw = random.Random(seed)
        for k in range(many):
            ring = draw.randrange(1, 25)
            yield drawn_places(draw, ring), draw.choice((0, 1, -1, draw.randrange(-30, 30), 10 ** 6)), ring

    def test_they_turn_by_number_over_how_many(self):
        for places, number, ring in self.drawn(143):
            for wheel in (greatest_led(places, number, ring), least_led(places, number, ring)):
                self.assertTrue(is_wheel(wheel))
                self.assertEqual(len(wheel), ring)
                self.assertEqual(slow_turning(wheel) * len(places), number)

    def test_they_are_backs_of_each_other(self):
        for places, number, ring in self.drawn(144):
            greatest, least = greatest_led(places, number, ring), least_led(places, number, ring)
            self.assertEqual(first_back(least), greatest_led(places, -number, ring))
            self.assertEqual(last_back(greatest), least_led(places, -number, ring))

    def test_put_together_they_are_such(self):
        draw = random.Random(145)
        for places, number, ring in self.drawn(146):
            more = draw.randrange(-30, 30)
            for function in (greatest_led, least_led):
                both = put_together((function(places, number, ring), function(places, more, ring)))
                self.assertEqual(both, function(places, number + more, ring))

    def test_of_one_place_and_of_all(self):
        self.assertEqual((greatest_led((0,), 0, 1), least_led((0,), 7, 1)), ((0,), (7,)))
        self.assertEqual((greatest_led((2,), 1, 3), least_led((2,), 1, 3)), ((5, 5, 5), (2, 2, 5)))
        for ring in (1, 2, 24):
            for number in (-25, -1, 0, 1, 25):
                self.assertEqual(greatest_led(tuple(range(ring)), number, ring), steady(ring, number))
                self.assertEqual(least_led(tuple(range(ring)), number, ring), steady(ring, number))


class LedBy(unittest.TestCase):
    def test_small(self):
        for wheel in SMALL[::2]:
            ring = len(wheel)
            for places in all_places(ring):
                by = [
                    number for number in range(-3 * ring, 3 * ring + 1)
                    if all([led_at_once(wheel, p) == placed(places, ring, i + number) for i, p in enumerate(places)])
                ]
                for number in range(-ring - 3, ring + 4):
                    self.assertIs(is_led_by(wheel, places, number), number in by, (wheel, places, number))
                if by:
                    self.assertEqual([led_by(wheel, places)], by)
                else:
                    self.assertRaises(CanNot, led_by, wheel, places)

    def test_exactly_between_the_least_and_the_greatest(self):
        draw = random.Random(147)
        for ring in range(1, 5):
            wheels = small_wheels(ring, -ring, ring)
            for places in all_places(ring):
                for number in (-1, 0, 1, 2):
                    least, greatest = least_led(places, number, ring), greatest_led(places, number, ring)
                    for wheel in draw.sample(wheels, min(len(wheels), 40)):
                        between = is_at_most(least, wheel) and is_at_most(wheel, greatest)
                        self.assertIs(is_led_by(wheel, places, number), between)

    def test_drawn(self):
        draw = random.Random(148)
        for k in range(200):
            ring = draw.randrange(1, 25)
            places = drawn_places(draw, ring)
            number = draw.choice((0, 1, -1, draw.randrange(-30, 30), 10 ** 6, -10 ** 6))
            for function in (greatest_led, least_led):
                wheel = function(places, number, ring)
                self.assertEqual(led_by(wheel, places), number)
                self.assertIs(is_led_by(wheel, places, number), True)
                self.assertIs(is_led_by(wheel, places, number + 1), False)
                self.assertIs(is_led_by(wheel, places, number - 1), False)

    def test_at_one_place_not(self):
        wheel = greatest_led((0, 4, 9), 2, 12)
        for place in (0, 4, 9):
            near = wheel[:place] + (wheel[place] - 1,) + wheel[place + 1:]
            if is_wheel(near):
                self.assertIs(is_led_by(near, (0, 4, 9), 2), False)
                self.assertRaises(CanNot, led_by, near, (0, 4, 9))

    def test_who_does_so_turns_by_it(self):
        for wheel in a_mix(149, 60):
            for places in all_places(min(len(wheel), 4)):
                try:
                    number = led_by(wheel, places)
                except CanNot:
                    continue
                self.assertEqual(slow_turning(wheel) * len(places), number)

    def test_the_first_place_comes_to_one_but_another_not(self):
        self.assertRaises(CanNot, led_by, (0, 0, 0), (0, 1))
        self.assertRaises(CanNot, led_by, (0, 1, 1), (0, 2))
        self.assertRaises(CanNot, led_by, (0, 2, 3), (0, 1))
        self.assertRaises(CanNot, led_by, (1, 2, 3), (0,))
        self.assertEqual(led_by((3, 3, 4), (0,)), 1)

    def test_places_on_another_ring(self):
        self.assertRaises(Unfit, led_by, (0, 1), (2,))
        self.assertRaises(Unfit, is_led_by, (0, 1), (0, 2), 0)
        self.assertRaises(Unfit, is_led_by, (0, 1), (-1, 0), 0)


class ManyLed(unittest.TestCase):
    def test_counted_one_by_one(self):
        for ring in range(1, 5):
            for places in all_places(ring):
                for number in range(-3, 5):
                    self.assertEqual(many_led(places, number, ring), len(all_led(places, number, ring)))

    def test_counted_neighbour_by_neighbour(self):
        draw = random.Random(150)
        for k in range(300):
            ring = draw.randrange(1, 25)
            places = drawn_places(draw, ring)
            number = draw.randrange(-30, 30)
            many = 1
            for at in range(len(places)):
                gap = placed(places, ring, at + 1) - placed(places, ring, at)
                reach = placed(places, ring, at + number + 1) - placed(places, ring, at + number)
                many *= math.factorial(reach + gap - 1) // math.factorial(reach) // math.factorial(gap - 1)
            self.assertEqual(many_led(places, number, ring), many)

    def test_listed(self):
        self.assertEqual([many_led((0,), 0, ring) for ring in (1, 2, 3, 4, 5)], [1, 3, 10, 35, 126])
        self.assertEqual([many_led(tuple(range(ring)), -7, ring) for ring in (1, 5, 24)], [1, 1, 1])
        self.assertEqual(many_led((3,), 5, 24), math.comb(47, 23))
        self.assertEqual(many_led((0, 12), 2, 24), many_led((0, 12), 0, 24))


class WheelBetween(unittest.TestCase):
    def check(self, places, number, ring, wheels):
        self.assertEqual([wheel_between(places, number, ring, share) for share in range(len(wheels))], wheels)
        self.assertRaises(Unfit, wheel_between, places, number, ring, len(wheels))
        self.assertRaises(Unfit, wheel_between, places, number, ring, len(wheels) + 1)
        self.assertRaises(Unfit, wheel_between, places, number, ring, -1)

    def test_all_small(self):
        for ring in range(1, 5):
            for places in all_places(ring):
                for number in (-2, -1, 0, 1, 3):
                    self.check(places, number, ring, all_led(places, number, ring))

    def test_greater_rings(self):
        draw = random.Random(151)
        tried = 0
        while tried < 60:
            ring = draw.randrange(4, 25)
            places = drawn_places(draw, ring)
            number = draw.randrange(-30, 30)
            if 1 < many_led(places, number, ring) <= 100:
                tried += 1
                self.check(places, number, ring, all_led_between(places, number, ring))

    def test_the_first_and_the_last(self):
        draw = random.Random(152)
        for k in range(100):
            ring = draw.randrange(1, 25)
            places, number = drawn_places(draw, ring), draw.randrange(-30, 30)
            many = many_led(places, number, ring)
            if many <= 1000:
                self.assertEqual(wheel_between(places, number, ring, 0), least_led(places, number, ring))
                self.assertEqual(wheel_between(places, number, ring, many - 1), greatest_led(places, number, ring))

    def test_just_at_the_limit(self):
        self.assertEqual(many_led((0, 3, 6), 1, 9), 1000)
        wheels = all_led_between((0, 3, 6), 1, 9)
        for share in (0, 1, 10, 500, 998, 999):
            self.assertEqual(wheel_between((0, 3, 6), 1, 9, share), wheels[share])
        self.assertRaises(Unfit, wheel_between, (0, 3, 6), 1, 9, 1000)
        self.assertRaises(Unfit, wheel_between, (0, 3, 6), 1, 9, -1)
        self.assertEqual(many_led((1, 4, 7), -2, 9), 1000)
        self.assertEqual(wheel_between((1, 4, 7), -2, 9, 999), greatest_led((1, 4, 7), -2, 9))

    def test_just_above_the_limit(self):
        places, ring = (0, 1, 3, 6), 13
        self.assertEqual(many_led(places, 1, ring), 1008)
        for share in (0, 1, 500, 999, 1000, 1007):
            self.assertRaises(TooMany, wheel_between, places, 1, ring, share)

    def test_unfit_is_ahead_of_too_many(self):
        for share in (1008, 10 ** 6, -1, None, True, 1.0):
            self.assertRaises(Unfit, wheel_between, (0, 1, 3, 6), 1, 13, share)
        self.assertRaises(Unfit, wheel_between, (0, 12), 1, 24, many_led((0, 12), 1, 24))
        self.assertRaises(TooMany, wheel_between, (0, 12), 1, 24, many_led((0, 12), 1, 24) - 1)
        self.assertRaises(Unfit, wheel_between, (0, 12), 1, 12, 0)

    def test_numbers_below_0_and_a_ring_of_one(self):
        self.assertEqual(wheel_between((0,), -4, 1, 0), (-4,))
        self.assertEqual([wheel_between((1,), -1, 2, share) for share in range(3)], [(-3, -1), (-2, -1), (-1, -1)])


class WrongPlaces(unittest.TestCase):
    def test_what_is_no_places_of_the_ring(self):
        for places, ring in (((0, 5), 5), ((5,), 5), ((0,), 0), ((), 5), ((1, 0), 5), ((2, 2), 5), ((-1, 2), 5), ((0, 1, 2), 2)):
            for function in (greatest_led, least_led, many_led):
                self.assertRaises(Unfit, function, places, 1, ring)
            for function in (told_on, last_at, first_at_least):
                self.assertRaises(Unfit, function, places, ring, 1)
            self.assertRaises(Unfit, wheel_between, places, 1, ring, 0)

    def test_the_last_place_there_is(self):
        self.assertEqual(told_on((4,), 5, 0), 4)
        self.assertEqual(told_on((0, 1, 2, 3, 4), 5, 9), 9)
        self.assertEqual(placed_at_once((4,), 5, 3), 19)
        self.assertEqual(pair(slow_turning(greatest_led((4,), 2, 5))), (2, 1))


if __name__ == "__main__":
    unittest.main()
