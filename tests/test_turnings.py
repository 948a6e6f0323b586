"""Turnings, [7]."""

import math
import random
import unittest

from bothwheels.errors import NoPlace, Unfit
from bothwheels.turnings import (
    after, beats_to_own, come_back, come_together, is_return, orbit, own_places, own_step, turning,
)
from bothwheels.wheels import finer, from_elsewhere
from tests.reckoning import (
    SMALL, a_mix, beat_by_beat, drawn, led_at_once, pair, placed, slow_return, slow_turning, steady, walked,
)

GREAT = 10 ** 30


def slow_own(wheel):
    """The places that come back within so many beats as there are places."""
    places = len(wheel)
    return tuple([
        place for place in range(places)
        if place in [beat_by_beat(wheel, place, beats) % places for beats in range(1, places + 1)]
    ])


def slow_after(wheel, number, beats):
    """Beat by beat into a place that comes back, then its rounds, many times at once."""
    ahead = min(beats, len(wheel))
    number = beat_by_beat(wheel, number, ahead)
    place, back, rounds = slow_return(wheel)
    times, left = divmod(beats - ahead, back)
    return beat_by_beat(wheel, number, left) + times * rounds * len(wheel)


class ComeBack(unittest.TestCase):
    def test_all_small(self):
        for wheel in SMALL:
            self.assertEqual(come_back(wheel), slow_return(wheel), wheel)
            self.assertEqual(turning(wheel), pair(slow_turning(wheel)), wheel)

    def test_a_mix(self):
        for wheel in a_mix(61):
            self.assertEqual(come_back(wheel), slow_return(wheel), wheel)
            self.assertEqual(turning(wheel), pair(slow_turning(wheel)), wheel)

    def test_listed(self):
        self.assertEqual(come_back((0,)), (0, 1, 0))
        self.assertEqual(come_back((7,)), (0, 1, 7))
        self.assertEqual(come_back((-7,)), (0, 1, -7))
        self.assertEqual(come_back((0, 0)), (0, 1, 0))
        self.assertEqual(come_back((1, 1)), (1, 1, 0))
        self.assertEqual(come_back((2, 2)), (0, 1, 1))
        self.assertEqual(come_back((-1, -1)), (1, 1, -1))
        self.assertEqual(come_back((1, 4, 5, 5)), (0, 2, 1))
        self.assertEqual(come_back(steady(24, 5)), (0, 24, 5))
        self.assertEqual(come_back(steady(24, -10)), (0, 12, -5))
        self.assertEqual(come_back(steady(24, 10 ** 6)), (0, 3, 125000))
        self.assertEqual(turning((10 ** 6,) * 24), (41666, 1))
        self.assertEqual(turning((-10 ** 6,) * 24), (-41667, 1))

    def test_a_place_that_comes_to_itself_alone(self):
        for places in (2, 5, 24):
            for place in range(places):
                wheel = tuple([min(z + 1, place if z <= place else place + places) for z in range(places)])
                self.assertEqual(come_back(wheel), (place, 1, 0))
                self.assertEqual(own_places(wheel), (place,))

    def test_shifts(self):
        for places in range(1, 25):
            for steps in range(-30, 31):
                wheel = steady(places, steps)
                common = math.gcd(places, steps)
                self.assertEqual(come_back(wheel), (0, places // common, steps // common))
                self.assertEqual(own_places(wheel), tuple(range(places)))
                self.assertEqual(own_step(wheel), steps)

    def test_least_beats_and_no_common_divisor(self):
        for wheel in a_mix(62):
            place, beats, rounds = come_back(wheel)
            self.assertLessEqual(beats, len(wheel))
            self.assertEqual(math.gcd(beats, rounds), 1)
            self.assertEqual(turning(wheel), (rounds, beats))

    def test_is_return(self):
        for wheel in a_mix(63, 30):
            place, beats, rounds = slow_return(wheel)
            self.assertIs(is_return(wheel, (place, beats, rounds)), True)
            for thing in (
                (place + 1, beats, rounds), (place, 2 * beats, 2 * rounds), (place, beats, rounds + 1), (place, beats + 1, rounds),
                (place - 1, beats, rounds), [place, beats, rounds], (place, beats), (rounds, beats), (place, rounds, beats, 0),
                (place + len(wheel), beats, rounds), (place, -beats, -rounds),
            ):
                self.assertIs(is_return(wheel, thing), False, (wheel, thing))

    def test_another_place_that_comes_back_is_not_the_one(self):
        self.assertIs(is_return((0, 1, 2), (0, 1, 0)), True)
        self.assertIs(is_return((0, 1, 2), (1, 1, 0)), False)
        self.assertIs(is_return((0, 1, 2), (2, 1, 0)), False)


class Own(unittest.TestCase):
    def test_own_places(self):
        for wheel in SMALL + a_mix(64):
            self.assertEqual(own_places(wheel), slow_own(wheel), wheel)

    def test_all_come_back_alike(self):
        for wheel in a_mix(65):
            place, beats, rounds = slow_return(wheel)
            own = own_places(wheel)
            self.assertEqual(own[0], place)
            self.assertEqual(len(own) % beats, 0)
            for each in own:
                walk = [beat_by_beat(wheel, each, many) for many in range(1, beats + 1)]
                self.assertEqual(walk[-1], each + rounds * len(wheel))
                self.assertNotIn(each, [number % len(wheel) for number in walk[:-1]])

    def test_own_step(self):
        for wheel in SMALL + a_mix(66, 60):
            own, step = slow_own(wheel), own_step(wheel)
            if abs(step) < 3000:
                for at, place in enumerate(own):
                    self.assertEqual(led_at_once(wheel, place), placed(own, len(wheel), at + step), wheel)

    def test_own_step_by_how_many_is_the_turning(self):
        for wheel in a_mix(67):
            self.assertEqual(own_step(wheel) * turning(wheel)[1], len(own_places(wheel)) * turning(wheel)[0])

    def test_of_several_orbits(self):
        self.assertEqual(own_places((2, 3, 4, 5)), (0, 1, 2, 3))
        self.assertEqual(own_step((2, 3, 4, 5)), 2)
        self.assertEqual(own_places((2, 2, 4, 4)), (0, 2))
        self.assertEqual(own_step((2, 2, 4, 4)), 1)
        self.assertEqual(own_step((0, 1, 3, 3)), 0)
        self.assertEqual(own_places((0, 1, 3, 3)), (0, 1, 3))
        self.assertEqual(own_step((-4, -4, -4)), -2)
        self.assertEqual(own_step((5,)), 5)
        self.assertEqual(own_places((5,)), (0,))


class Orbits(unittest.TestCase):
    def test_orbit(self):
        for wheel in a_mix(68, 60):
            for place in range(len(wheel)):
                walk = [beat_by_beat(wheel, place, beats) % len(wheel) for beats in range(len(wheel) + 1)]
                told = orbit(wheel, place)
                self.assertEqual(told, tuple(dict.fromkeys(walk)), (wheel, place))

    def test_beats_to_own(self):
        for wheel in SMALL + a_mix(69, 60):
            own = slow_own(wheel)
            for place in range(len(wheel)):
                beats = beats_to_own(wheel, place)
                walk = [beat_by_beat(wheel, place, many) % len(wheel) for many in range(beats + 1)]
                self.assertEqual([at in own for at in walk], [False] * beats + [True])
                self.assertLessEqual(beats, len(wheel) - len(own))

    def test_a_long_way_to_own(self):
        falls = (0,) + tuple(range(23))
        self.assertEqual([beats_to_own(falls, place) for place in range(24)], list(range(24)))
        self.assertEqual(orbit(falls, 23), tuple(range(23, -1, -1)))
        self.assertEqual(orbit(falls, 0), (0,))

    def test_no_place(self):
        for wheel in a_mix(70, 30):
            places = len(wheel)
            for function in (orbit, beats_to_own):
                for place in (places, places + 1, -1, -places, 10 ** 6, -10 ** 6, GREAT):
                    with self.assertRaises(NoPlace) as caught:
                        function(wheel, place)
                    self.assertEqual(vars(caught.exception), {"place": place})
                function(wheel, 0)
                function(wheel, places - 1)

    def test_unfit_is_ahead_of_no_place(self):
        for function in (orbit, beats_to_own):
            self.assertRaises(Unfit, function, (1, 0), 5)
            self.assertRaises(Unfit, function, (1, 1), None)
            self.assertRaises(Unfit, function, (1, 1), True)
            self.assertRaises(NoPlace, function, (1, 1), 2)


class After(unittest.TestCase):
    def test_beat_by_beat(self):
        for wheel in SMALL[::3] + a_mix(71, 40):
            for number in (-9, -1, 0, 1, 5, 30):
                for beats in (0, 1, 2, 3, 7):
                    self.assertEqual(after(wheel, number, beats), beat_by_beat(wheel, number, beats))

    def test_many_beats(self):
        draw = random.Random(72)
        for k in range(300):
            wheel, number, beats = drawn(draw), draw.randrange(-10 ** 6, 10 ** 6), draw.randrange(10 ** draw.randrange(1, 31))
            self.assertEqual(after(wheel, number, beats), slow_after(wheel, number, beats), (wheel, number, beats))

    def test_at_the_bound(self):
        for wheel in a_mix(73, 40):
            for number in (0, -1, 10 ** 6):
                self.assertEqual(after(wheel, number, GREAT), slow_after(wheel, number, GREAT))
                self.assertEqual(after(wheel, number, GREAT + 1), led_at_once(wheel, after(wheel, number, GREAT)))
                self.assertEqual(after(wheel, number, 0), number)

    def test_listed(self):
        self.assertEqual(after((1, 2, 3), 0, GREAT), GREAT)
        self.assertEqual(after((-5,), 2, GREAT), 2 - 5 * GREAT)
        self.assertEqual(after((1, 1), -1, GREAT), -1)
        self.assertEqual(after((1, 1), GREAT, 1), GREAT + 1)

    def test_beats_below_0(self):
        self.assertRaises(Unfit, after, (1, 1), 0, -1)
        self.assertRaises(Unfit, after, (1, 1), 0, -GREAT)

    def test_how_far_apart(self):
        draw = random.Random(74)
        for k in range(200):
            wheel, beats = drawn(draw), draw.randrange(60)
            one = draw.randrange(-50, 50)
            other = one + draw.randrange(len(wheel) + 1)
            apart = after(wheel, other, beats) - after(wheel, one, beats)
            self.assertTrue(0 <= apart <= len(wheel))


class ComeTogether(unittest.TestCase):
    def check(self, wheel, one, other):
        told = None
        for beats in reversed(range(3 * len(wheel) + 2)):
            if beat_by_beat(wheel, one, beats) == beat_by_beat(wheel, other, beats):
                told = beats
        self.assertEqual(come_together(wheel, one, other), told, (wheel, one, other))

    def test_small(self):
        for wheel in SMALL[::2]:
            for one in range(-3, 6, 2):
                for other in range(-5, 6):
                    self.check(wheel, one, other)

    def test_a_mix(self):
        draw = random.Random(75)
        for wheel in a_mix(76, 60):
            one = draw.randrange(-40, 40)
            self.check(wheel, one, one + draw.randrange(-len(wheel), len(wheel) + 1))
            self.check(wheel, one, one)
            self.check(wheel, one, one + 1)
            self.check(wheel, one, one + len(wheel))

    def test_behind_many_beats(self):
        falls = (0,) + tuple(range(23))
        self.assertEqual([come_together(falls, 0, place) for place in range(24)], list(range(24)))
        self.assertEqual(come_together(falls, 23, 0), 23)
        self.assertEqual(come_together(falls, -1, 0), None)
        self.assertEqual(come_together(falls, -1, -24), 23)
        self.assertEqual(come_together(falls, 22, 23), 23)

    def test_own_places_never(self):
        for wheel in a_mix(77, 60):
            own = own_places(wheel)
            for one in own:
                for other in own[:5]:
                    self.assertEqual(come_together(wheel, one, other), 0 if one == other else None)

    def test_a_round_apart_never(self):
        for wheel in a_mix(78, 40):
            self.assertIsNone(come_together(wheel, 0, len(wheel)))
            self.assertIsNone(come_together(wheel, 10 ** 6, -10 ** 6))


class OnOtherRings(unittest.TestCase):
    def test_begun_elsewhere(self):
        draw = random.Random(79)
        for wheel in a_mix(80, 60):
            number = draw.randrange(-30, 30)
            elsewhere = from_elsewhere(wheel, number)
            self.assertEqual(turning(elsewhere), turning(wheel))
            moved = sorted([(place - number) % len(wheel) for place in own_places(wheel)])
            self.assertEqual(own_places(elsewhere), tuple(moved))

    def test_on_finer_rings(self):
        for wheel in a_mix(81, 40):
            for many in (2, 3):
                self.assertEqual(turning(finer(wheel, many)), turning(wheel))

    def test_great_rings(self):
        wheel = finer((1, 4, 5, 5), 60)
        self.assertEqual(come_back(wheel), slow_return(wheel))
        self.assertEqual(turning(tuple(range(7, 2007))), (7, 2000))
        falls = (0,) + tuple(range(1999))
        self.assertEqual(turning(falls), (0, 1))
        self.assertEqual(own_places(falls), (0,))
        self.assertEqual(beats_to_own(falls, 1999), 1999)
        self.assertEqual(walked(falls, 1999), 1998)


if __name__ == "__main__":
    unittest.main()
