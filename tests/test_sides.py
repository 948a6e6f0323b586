"""Sides, [8]."""

import math
import random
import unittest
from fractions import Fraction

from bothwheels.errors import CanNot, NoPlace, Unfit
from bothwheels.sides import (
    all_beyond, all_short, by_gains, by_lags, by_walk, can_gain, can_lag, gainer, gains, is_gainer, is_lagger, lagger,
    side_of,
)
from bothwheels.turnings import turning
from tests.reckoning import SMALL, a_mix, beat_by_beat, drawn, pair, slow_return, slow_turning, steady

GREAT = 10 ** 30
SLIPS, THIRD, BACK = (1, 1, 4, 5, 5), (2, 2, 4, 5, 6, 6), (-4, -4, -4)


def slow_gains(wheel, beats):
    """Beat by beat."""
    return tuple([beat_by_beat(wheel, place, beats) - place for place in range(len(wheel))])


def great_gain(wheel, place, beats):
    """Beat by beat for as many as places, then many times the return at once."""
    number = beat_by_beat(wheel, place, len(wheel))
    own, back, rounds = slow_return(wheel)
    times, left = divmod(beats - len(wheel), back)
    return beat_by_beat(wheel, number, left) + times * rounds * len(wheel) - place


class Gains(unittest.TestCase):
    def test_beat_by_beat(self):
        for wheel in SMALL[::2] + a_mix(101, 50):
            for beats in (1, 2, 3, 8):
                self.assertEqual(gains(wheel, beats), slow_gains(wheel, beats))

    def test_great_beats(self):
        for wheel in a_mix(102, 30):
            for beats in (GREAT, GREAT - 1, 10 ** 9 + 7):
                told = tuple([great_gain(wheel, place, beats) for place in range(len(wheel))])
                self.assertEqual(gains(wheel, beats), told)

    def test_listed(self):
        self.assertEqual(gains((0,), GREAT), (0,))
        self.assertEqual(gains((-3,), GREAT), (-3 * GREAT,))
        self.assertEqual(gains((0, 0), 1), (0, -1))
        self.assertEqual(gains(steady(4, 7), 5), (35,) * 4)

    def test_beats_from_1(self):
        for beats in (0, -1, -GREAT):
            self.assertRaises(Unfit, gains, THIRD, beats)
            self.assertRaises(Unfit, by_walk, THIRD, 0, beats)
            for function in (can_gain, can_lag, gainer, lagger, all_short, all_beyond):
                self.assertRaises(Unfit, function, THIRD, 1, beats)


class GainersAndLaggers(unittest.TestCase):
    def check(self, wheel, rounds, beats, gain):
        far = rounds * len(wheel)
        gaining = [place for place in range(len(wheel)) if gain[place] >= far]
        lagging = [place for place in range(len(wheel)) if gain[place] <= far]
        self.assertIs(can_gain(wheel, rounds, beats), bool(gaining))
        self.assertIs(can_lag(wheel, rounds, beats), bool(lagging))
        self.assertIs(all_short(wheel, rounds, beats), not gaining)
        self.assertIs(all_beyond(wheel, rounds, beats), not lagging)
        for function, places in ((gainer, gaining), (lagger, lagging)):
            if places:
                self.assertEqual(function(wheel, rounds, beats), places[0])
            else:
                self.assertRaises(CanNot, function, wheel, rounds, beats)
        for place in range(-1, len(wheel) + 2):
            self.assertIs(is_gainer(wheel, rounds, beats, place), place in gaining)
            self.assertIs(is_lagger(wheel, rounds, beats, place), place in lagging)

    def test_small(self):
        for wheel in SMALL[::3]:
            for beats in (1, 2, 3):
                gain = slow_gains(wheel, beats)
                for rounds in range(-3, 4):
                    self.check(wheel, rounds, beats, gain)

    def test_drawn_near_the_turning(self):
        draw = random.Random(103)
        for wheel in a_mix(104, 60):
            beats = draw.choice((1, 2, 3, len(wheel), len(wheel) + 1, 17))
            gain = slow_gains(wheel, beats)
            for rounds in range(min(gain) // len(wheel) - 1, max(gain) // len(wheel) + 2):
                self.check(wheel, rounds, beats, gain)

    def test_great(self):
        for wheel in a_mix(105, 15)[::8]:
            gain = gains(wheel, GREAT)
            for rounds in range(min(gain) // len(wheel) - 1, max(gain) // len(wheel) + 2):
                self.check(wheel, rounds, GREAT, gain)

    def test_one_that_comes_just_there_does_both(self):
        for wheel in a_mix(106, 40):
            place, beats, rounds = slow_return(wheel)
            self.assertIs(is_gainer(wheel, rounds, beats, place), True)
            self.assertIs(is_lagger(wheel, rounds, beats, place), True)

    def test_whether_some_place_gains_tells_the_side(self):
        for wheel in SMALL + a_mix(107, 60):
            turned = slow_turning(wheel)
            for beats in (1, 2, 3, 5):
                near = math.floor(turned * beats)
                for rounds in (near - 1, near, near + 1, near + 2):
                    goal = Fraction(rounds, beats)
                    self.assertIs(can_gain(wheel, rounds, beats), turned >= goal)
                    self.assertIs(all_short(wheel, rounds, beats), turned < goal)
                    self.assertIs(can_lag(wheel, rounds, beats), turned <= goal)
                    self.assertIs(all_beyond(wheel, rounds, beats), turned > goal)

    def test_many_beats_of_a_place_that_gains(self):
        for wheel in a_mix(108, 40):
            rounds = max(slow_gains(wheel, 3)) // len(wheel)
            place = gainer(wheel, rounds, 3)
            self.assertIs(is_gainer(wheel, 2 * rounds, 6, place), True)
            self.assertIs(is_gainer(wheel, 7 * rounds, 21, place), True)


class ByThem(unittest.TestCase):
    def slow(self, wheel):
        """The greatest of what some place gains, the least of what some place lags."""
        gained, lagged = [], []
        for beats in range(1, len(wheel) + 1):
            gain = slow_gains(wheel, beats)
            gained += [Fraction(own // len(wheel), beats) for own in gain]
            lagged += [Fraction(-(-own // len(wheel)), beats) for own in gain]
        return pair(max(gained)), pair(min(lagged))

    def test_by_their_words(self):
        for wheel in SMALL + a_mix(109, 60):
            self.assertEqual((by_gains(wheel), by_lags(wheel)), self.slow(wheel), wheel)

    def test_they_are_the_turning(self):
        for wheel in SMALL + a_mix(110):
            self.assertEqual(by_gains(wheel), turning(wheel))
            self.assertEqual(by_lags(wheel), turning(wheel))

    def test_listed(self):
        self.assertEqual([by_gains(own) for own in (SLIPS, THIRD, BACK)], [(0, 1), (1, 3), (-2, 1)])
        self.assertEqual([by_lags(own) for own in ((5,), (-5,), (0,))], [(5, 1), (-5, 1), (0, 1)])
        self.assertEqual(by_gains(steady(24, 7)), (7, 24))
        self.assertEqual(by_lags(steady(24, -7)), (-7, 24))


class ByWalk(unittest.TestCase):
    def test_by_its_words(self):
        draw = random.Random(111)
        for k in range(300):
            wheel = drawn(draw)
            place, beats = draw.randrange(len(wheel)), draw.randrange(1, 80)
            rounds = Fraction(beat_by_beat(wheel, place, beats) - place, len(wheel))
            told = (pair(Fraction(math.floor(rounds), beats)), pair(Fraction(math.ceil(rounds), beats)))
            self.assertEqual(by_walk(wheel, place, beats), told)

    def test_the_turning_lies_between(self):
        for wheel in a_mix(112, 60):
            turned = slow_turning(wheel)
            for place in range(len(wheel)):
                for beats in (1, 2, 5, 50):
                    low, high = [Fraction(*own) for own in by_walk(wheel, place, beats)]
                    self.assertTrue(low <= turned <= high <= low + Fraction(1, beats))

    def test_the_only_one_with_so_few_places_below(self):
        for wheel in SMALL[::7] + a_mix(113, 10)[::4]:
            places = len(wheel)
            for place in range(0, places, 3):
                low, high = [Fraction(*own) for own in by_walk(wheel, place, places * places)]
                there = {
                    Fraction(above, below)
                    for below in range(1, places + 1)
                    for above in range(math.ceil(low * below), math.floor(high * below) + 1)
                }
                self.assertEqual(there, {slow_turning(wheel)})

    def test_great_beats(self):
        self.assertEqual(by_walk((1, 2, 3), 0, GREAT), ((GREAT // 3, GREAT), pair(Fraction(GREAT // 3 + 1, GREAT))))
        self.assertEqual(by_walk((1, 2, 3), 2, 3 * GREAT), ((1, 3), (1, 3)))
        self.assertEqual(by_walk(BACK, 0, GREAT)[0], (-2, 1))
        for wheel in a_mix(114, 20):
            gain = Fraction(great_gain(wheel, 0, GREAT), len(wheel))
            told = (pair(Fraction(math.floor(gain), GREAT)), pair(Fraction(math.ceil(gain), GREAT)))
            self.assertEqual(by_walk(wheel, 0, GREAT), told)

    def test_no_place(self):
        for place in (6, 7, -1, -6, 10 ** 6):
            with self.assertRaises(NoPlace) as caught:
                by_walk(THIRD, place, 1)
            self.assertEqual(vars(caught.exception), {"place": place})
        by_walk(THIRD, 5, 1)

    def test_unfit_is_ahead_of_no_place(self):
        self.assertRaises(Unfit, by_walk, THIRD, 6, 0)
        self.assertRaises(Unfit, by_walk, THIRD, 6, None)
        self.assertRaises(Unfit, by_walk, (1, 0), 6, 1)
        self.assertRaises(Unfit, by_walk, THIRD, "6", 1)
        self.assertRaises(Unfit, by_walk, THIRD, True, 1)


class SideOf(unittest.TestCase):
    def test_just_at_above_and_below(self):
        for wheel in SMALL[::2] + a_mix(115, 60):
            turned = slow_turning(wheel)
            self.assertEqual(side_of(wheel, pair(turned)), 0)
            for below in (1, 2, 97, 10 ** 4, 10 ** 12):
                self.assertEqual(side_of(wheel, pair(turned + Fraction(1, below))), -1)
                self.assertEqual(side_of(wheel, pair(turned - Fraction(1, below))), 1)

    def test_numbers_of_every_kind(self):
        self.assertEqual([side_of(THIRD, own) for own in ((1, 3), (333, 1000), (334, 1000 + 1), (-1, 3), (10 ** 6, 1))], [0, 1, -1, 1, -1])
        self.assertEqual([side_of(BACK, own) for own in ((-2, 1), (-19999, 10 ** 4), (-20001, 10 ** 4))], [0, -1, 1])

    def test_no_fraction(self):
        for fraction in ((2, 6), (1, 0), (-1, -3), (1, True), 1, None, (1,), "1/3"):
            self.assertRaises(Unfit, side_of, THIRD, fraction)


if __name__ == "__main__":
    unittest.main()
