"""Goals, [20]."""

import itertools
import random
import unittest
from fractions import Fraction

from bothwheels.errors import CanNot, Unfit
from bothwheels.goals import (
    first_at, first_passed, last_below, meeting, meeting_place, quickest, slowest, way_of,
)
from bothwheels.turnings import after
from tests.reckoning import drawn_wheel, led_at_once, slow_return, slow_turning, small_wheels, steady

SLOW, QUICK, HALTS = (1, 2, 3, 5), (2, 2, 4, 5), (1, 1, 3)

# So many beats tell all of wheels of up to five places whose marks are not far apart: by 20
# beats both have come to what comes again, with what gains a round in so many beats.
LONG = 400


def walk(wheel, number, beats=LONG):
    """Where the mark stands at each beat, beat by beat."""
    found = [number]
    for beat in range(beats):
        found.append(led_at_once(wheel, found[-1]))
    return found


def first_that(tests):
    """The number of the first of these that holds, None if none does."""
    return next((at for at, own in enumerate(tests) if own), None)


def wheels(seed, many=60, most_places=5, size=8):
    """Small wheels and drawn ones."""
    draw = random.Random(seed)
    found = [own for places in (1, 2, 3) for own in draw.sample(small_wheels(places, -2, 2), 5)]
    return found + [drawn_wheel(draw, draw.randrange(1, most_places + 1), size) for k in range(many)] + [SLOW, QUICK, HALTS]


class Ways(unittest.TestCase):
    def test_way_of(self):
        for wheel in wheels(361):
            for place in range(-7, 8):
                to = led_at_once(wheel, place)
                self.assertEqual(way_of(wheel, place), (to > place) - (to < place))
        self.assertEqual(way_of(SLOW, -10 ** 30), 1)
        self.assertEqual(way_of((0,), 10 ** 30), 0)
        self.assertEqual(way_of((-1,), 0), -1)

    def test_a_mark_never_turns_back(self):
        for wheel in wheels(362):
            for place in range(-3, len(wheel) + 3):
                stood = walk(wheel, place, 40)
                ways = [(b > a) - (b < a) for a, b in zip(stood, stood[1:])]
                for at, way in enumerate(ways):
                    self.assertEqual(way_of(wheel, stood[at]), way)
                    self.assertIn(way, (ways[0], 0))
                    if way == 0:
                        self.assertEqual(set(ways[at:]), {0})


class FirstAndLast(unittest.TestCase):
    def test_beat_by_beat(self):
        for wheel in wheels(363):
            for place in range(-2, len(wheel) + 2):
                stood = walk(wheel, place)
                for goal in range(place - 12, place + 13):
                    self.assertEqual(first_at(wheel, place, goal), first_that([own >= goal for own in stood]), (wheel, place, goal))
                    self.last(wheel, place, goal, [own < goal for own in stood])

    def last(self, wheel, place, goal, below):
        if below[-1]:
            self.assertRaises(CanNot, last_below, wheel, place, goal)
        else:
            told = [beat for beat, own in enumerate(below) if own]
            self.assertEqual(last_below(wheel, place, goal), told[-1] if told else None)

    def test_goals_of_31_figures(self):
        draw = random.Random(364)
        for wheel in wheels(365, 60, 24, 60):
            for k in range(3):
                place = draw.randrange(-10 ** 30, 10 ** 30)
                goal = draw.randrange(-10 ** 30, 10 ** 30)
                told = first_at(wheel, place, goal)
                if goal <= place:
                    self.assertEqual(told, 0)
                    continue
                if slow_turning(wheel) <= 0:
                    self.assertIsNone(told)
                    self.assertRaises(CanNot, last_below, wheel, place, goal)
                    continue
                self.assertGreaterEqual(after(wheel, place, told), goal)
                self.assertLess(after(wheel, place, told - 1), goal)
                self.assertEqual(last_below(wheel, place, goal), told - 1)
                self.assertLessEqual(told, goal - place)

    def test_goals_already_reached(self):
        for wheel in wheels(366):
            for place in (-10 ** 30, -3, 0, 4, 10 ** 30):
                self.assertEqual(first_at(wheel, place, place), 0)
                self.assertEqual(first_at(wheel, place, -10 ** 30), 0)
                if slow_turning(wheel) > 0:
                    self.assertIsNone(last_below(wheel, place, place))

    def test_by_beat_goal_less_place_at_the_latest(self):
        for wheel in wheels(367):
            for place in range(-2, len(wheel)):
                for goal in (place + 1, place + 5, place + 100):
                    told = first_at(wheel, place, goal)
                    if told is not None:
                        self.assertLessEqual(told, goal - place)

    def test_never_and_for_ever(self):
        self.assertEqual([first_at(HALTS, 2, goal) for goal in (2, 3, 4, 5)], [0, 1, 2, None])
        self.assertEqual([last_below(HALTS, 2, goal) for goal in (1, 2, 3, 4)], [None, None, 0, 1])
        for goal in (5, 6, 10 ** 30):
            self.assertRaises(CanNot, last_below, HALTS, 2, goal)
        # Led back, it stands at 1 for ever; or never stands.
        back = (0, 1, 1)
        self.assertEqual([last_below(back, 2, goal) for goal in (0, 1, -10 ** 30)], [None, None, None])
        self.assertRaises(CanNot, last_below, back, 2, 2)
        for goal in (-10 ** 30, 0, 10 ** 30):
            self.assertRaises(CanNot, last_below, (-1,), 0, goal)
        self.assertEqual(first_at((-1,), 0, -5), 0)
        self.assertIsNone(first_at((-1,), 0, 1))
        self.assertEqual((first_at((0,), 3, 3), last_below((0,), 3, 3)), (0, None))
        self.assertRaises(CanNot, last_below, (0,), 3, 4)

    def test_unfit_is_ahead_of_can_not(self):
        for place, goal in ((None, 9), (2, None), (True, 9), (2, "9"), (2.0, 9), (2, (9,))):
            self.assertRaises(Unfit, last_below, HALTS, place, goal)
            self.assertRaises(Unfit, first_at, HALTS, place, goal)
        self.assertRaises(Unfit, last_below, (1, 0), 2, 9)


def pairs_of_wheels(seed, many=120, most_places=5):
    draw = random.Random(seed)
    found = [(SLOW, QUICK), (QUICK, SLOW), (SLOW, SLOW), ((0,), (1,)), ((2, 3), (1, 2)), (steady(5, 2), steady(5, 3))]
    for k in range(many):
        places = draw.randrange(1, most_places + 1)
        found.append((drawn_wheel(draw, places, 8 + places), drawn_wheel(draw, places, 8 + places)))
    return found


class TwoMarks(unittest.TestCase):
    def test_beat_by_beat(self):
        draw = random.Random(368)
        for wheel, other in pairs_of_wheels(369):
            for k in range(6):
                place, far = draw.randrange(-9, 10), draw.randrange(-9, 10)
                one, two = walk(wheel, place), walk(other, far)
                told = list(zip(one, two))
                self.assertEqual(first_passed(wheel, place, other, far), first_that([a >= b for a, b in told]), (wheel, place, other, far))
                self.assertEqual(meeting(wheel, place, other, far), first_that([a == b for a, b in told]), (wheel, place, other, far))
                same = first_that([(a - b) % len(wheel) == 0 for a, b in told])
                self.assertEqual(meeting_place(wheel, place, other, far), same)

    def apart(self, wheel, place, other, far, beat):
        return after(wheel, place, beat) - after(other, far, beat)

    def test_far_apart(self):
        # The gap grows from a beat to the one a common multiple of the beats of both later.
        draw = random.Random(370)
        for wheel, other in pairs_of_wheels(371, 80, 24):
            place, far = draw.randrange(-10 ** 30, 10 ** 30), draw.randrange(-10 ** 30, 10 ** 30)
            told = first_passed(wheel, place, other, far)
            faster = slow_turning(wheel) > slow_turning(other)
            if place >= far:
                self.assertEqual(told, 0)
            elif not faster:
                self.assertIsNone(told)
            else:
                self.assertGreaterEqual(self.apart(wheel, place, other, far, told), 0)
                period = slow_return(wheel)[1] * slow_return(other)[1]
                for back in range(1, min(period, 60) + 1):
                    self.assertLess(self.apart(wheel, place, other, far, told - back), 0)

    def test_meeting_far_apart(self):
        draw = random.Random(372)
        met = 0
        for wheel, other in pairs_of_wheels(373, 80, 6):
            # What both come to in a great many beats, told back: there they meet, or somewhat ahead.
            place, beats = draw.randrange(-9, 9), draw.randrange(10 ** 24, 10 ** 25)
            far = place + (after(wheel, place, beats) - after(other, place, beats)) // len(wheel) * len(wheel)
            told = meeting(wheel, place, other, far)
            if told is None:
                continue
            met += 1
            self.assertEqual(self.apart(wheel, place, other, far, told), 0)
            for back in range(1, min(told, 40) + 1):
                self.assertNotEqual(self.apart(wheel, place, other, far, told - back), 0)
        self.assertGreater(met, 20)

    def test_they_pass_without_meeting(self):
        # Two on, by a step from an odd gap.
        two, none = (2, 3, 4, 5), (0, 1, 2, 3)
        for far in (1, 3, 10 ** 30 + 1):
            self.assertEqual(first_passed(two, 0, none, far), (far + 1) // 2)
            self.assertIsNone(meeting(two, 0, none, far))
            self.assertIsNone(meeting_place(two, 0, none, far))
        for far in (2, 4, 10 ** 30):
            self.assertEqual(meeting(two, 0, none, far), far // 2)
        self.assertIsNone(meeting(two, 4, none, 2))

    def test_they_meet_at_a_place_rounds_apart(self):
        self.assertEqual(meeting_place(QUICK, 1, SLOW, 3), 5)
        self.assertIsNone(meeting((0, 1, 2), 0, (0, 1, 2), 3))
        self.assertEqual(meeting_place((0, 1, 2), 0, (0, 1, 2), 3 * 10 ** 29), 0)
        self.assertIsNone(meeting_place((2, 3), 0, (2, 3), 1))
        self.assertEqual(meeting_place((0, 0, 0), 2, (0, 1, 2), -3 * 10 ** 20), 1)

    def test_falling_back_and_passing_all_the_same(self):
        # The gap is not ever greater: it may fall within a period.
        for wheel, other in itertools.product(small_wheels(3, 0, 2)[::3], repeat=2):
            for far in (1, 2, 5):
                told = first_passed(wheel, 0, other, far)
                one, two = walk(wheel, 0), walk(other, far)
                self.assertEqual(told, first_that([a >= b for a, b in zip(one, two)]))

    def test_at_once(self):
        for wheel, other in pairs_of_wheels(374, 20):
            for place in (-10 ** 30, 0, 10 ** 30):
                for function in (first_passed, meeting, meeting_place):
                    self.assertEqual(function(wheel, place, other, place), 0)

    def test_unlike_rings(self):
        for function in (first_passed, meeting, meeting_place):
            self.assertRaises(Unfit, function, SLOW, 0, HALTS, 0)
            self.assertRaises(Unfit, function, (0,), 0, (0, 1), 0)
            for place, far in ((None, 0), (0, None), (True, 0), (0, "0")):
                self.assertRaises(Unfit, function, SLOW, place, QUICK, far)
                self.assertRaises(Unfit, function, SLOW, place, HALTS, far)
            self.assertRaises(Unfit, function, (1, 0), 0, QUICK, 0)
            self.assertRaises(Unfit, function, SLOW, 0, (1, 0, 9, 9), 0)


class SlowestAndQuickest(unittest.TestCase):
    def slow(self, wheel, rounds):
        """For each place the first beat at which it has gained so many rounds, beat by beat."""
        far = rounds * len(wheel)
        return [first_that([own >= place + far for own in walk(wheel, place)]) for place in range(len(wheel))]

    def test_beat_by_beat(self):
        for wheel in wheels(375):
            for rounds in (1, 2, 3, 7):
                told = self.slow(wheel, rounds)
                if None in told:
                    self.assertIsNone(slowest(wheel, rounds))
                else:
                    self.assertEqual(slowest(wheel, rounds), (told.index(max(told)), max(told)))
                able = [own for own in told if own is not None]
                if able == []:
                    self.assertIsNone(quickest(wheel, rounds))
                else:
                    self.assertEqual(quickest(wheel, rounds), (told.index(min(able)), min(able)))

    def test_rounds_to_10_to_the_25(self):
        for wheel in wheels(376, 40, 24, 60):
            turned = slow_turning(wheel)
            for rounds in (10 ** 25, 10 ** 25 - 1, 3):
                for function in (slowest, quickest):
                    told = function(wheel, rounds)
                    if turned <= 0:
                        self.assertIsNone(told)
                        continue
                    place, beat = told
                    far = rounds * len(wheel)
                    self.assertGreaterEqual(after(wheel, place, beat), place + far)
                    self.assertLess(after(wheel, place, beat - 1), place + far)
                    self.assertTrue((rounds - 1) / turned < beat < (rounds + 1) / turned + 1)
                    # No other place is later, is earlier.
                    for own in range(len(wheel)):
                        if function == slowest:
                            self.assertGreaterEqual(after(wheel, own, beat), own + far)
                            if own < place:
                                self.assertGreaterEqual(after(wheel, own, beat - 1), own + far)
                        else:
                            self.assertLess(after(wheel, own, beat - 1), own + far)
                            if own < place:
                                self.assertLess(after(wheel, own, beat), own + far)

    def test_bounds_of_the_beat(self):
        for wheel in wheels(377):
            turned = slow_turning(wheel)
            if turned <= 0:
                continue
            for place in range(len(wheel)):
                for rounds in (1, 2, 10, 10 ** 20):
                    beat = first_at(wheel, place, place + rounds * len(wheel))
                    self.assertTrue(Fraction(rounds - 1) / turned < beat < Fraction(rounds + 1) / turned + 1)

    def test_listed(self):
        self.assertEqual([slowest((0,), 1), quickest((0,), 1), slowest((-1,), 1), quickest(HALTS, 1)], [None] * 4)
        self.assertEqual((slowest((3,), 10), quickest((3,), 10)), ((0, 4), (0, 4)))
        self.assertEqual((slowest((24,), 10 ** 25), quickest(steady(24, 1), 10 ** 25)), ((0, -(-10 ** 25 // 24)), (0, 24 * 10 ** 25)))

    def test_rounds_from_1(self):
        for rounds in (0, -1, None, True, "1", 1.0, (1,)):
            self.assertRaises(Unfit, slowest, SLOW, rounds)
            self.assertRaises(Unfit, quickest, SLOW, rounds)


if __name__ == "__main__":
    unittest.main()
