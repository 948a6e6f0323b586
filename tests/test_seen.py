"""Seen on places, [11]."""

import random
import unittest

from bothwheels.errors import Unfit
from bothwheels.seen import (
    all_seen, all_strictly_seen, are_kept, keeps_turning, kept_within, least_keeping, left_behind, places_within, seen,
    seen_over, strictly_seen,
)
from bothwheels.wheels import is_at_most, is_train, is_wheel, put_together, shift
from tests.reckoning import (
    SMALL, a_mix, all_places, beat_by_beat, drawn, drawn_places, drawn_train, last_placed, led_at_once, placed_at_once,
    slow_return, slow_turning, steady,
)

WHEEL, FAST, SOME = (1, 1, 4, 4, 5), (3, 3, 4, 6, 7), (0, 2, 3)


def slow_seen(wheel, places):
    return tuple([last_placed(places, len(wheel), led_at_once(wheel, place)) for place in places])


def slow_strictly(wheel, places):
    return tuple([last_placed(places, len(wheel), led_at_once(wheel, place) - 1) for place in places])


def slow_over(wheel, places):
    """The first at or behind: the last one there, or else the one behind it."""
    found = []
    for place in places:
        to = led_at_once(wheel, place)
        at = last_placed(places, len(wheel), to)
        found.append(at if placed_at_once(places, len(wheel), at) == to else at + 1)
    return tuple(found)


def pairs(seed, many=120):
    """Wheels with places of their rings: one place, all, and drawn ones."""
    draw = random.Random(seed)
    found = []
    for wheel in a_mix(seed, many):
        ring = len(wheel)
        found.append((wheel, drawn_places(draw, ring)))
        found.append((wheel, draw.choice((tuple(range(ring)), (draw.randrange(ring),), (ring - 1,), (0,)))))
    return found


class ByTheirWords(unittest.TestCase):
    def check(self, wheel, places):
        self.assertEqual(seen(wheel, places), slow_seen(wheel, places), (wheel, places))
        self.assertEqual(strictly_seen(wheel, places), slow_strictly(wheel, places), (wheel, places))
        self.assertEqual(seen_over(wheel, places), slow_over(wheel, places), (wheel, places))
        steps = [
            led_at_once(wheel, place) - placed_at_once(places, len(wheel), at)
            for place, at in zip(places, slow_seen(wheel, places))
        ]
        self.assertEqual(left_behind(wheel, places), tuple(steps))

    def test_the_tests_own_way(self):
        self.assertEqual([last_placed(SOME, 5, own) for own in range(-6, 7)], [-4, -3, -3, -2, -1, -1, 0, 0, 1, 2, 2, 3, 3])

    def test_small(self):
        for wheel in SMALL[::2]:
            for places in all_places(len(wheel)):
                self.check(wheel, places)

    def test_drawn(self):
        for wheel, places in pairs(161):
            self.check(wheel, places)

    def test_on_all_places(self):
        for wheel in a_mix(162, 40):
            places = tuple(range(len(wheel)))
            self.assertEqual(seen(wheel, places), wheel)
            self.assertEqual(seen_over(wheel, places), wheel)
            self.assertEqual(strictly_seen(wheel, places), tuple([number - 1 for number in wheel]))
            self.assertEqual(left_behind(wheel, places), (0,) * len(wheel))
            self.assertIs(are_kept(wheel, places), True)
            self.assertEqual(kept_within(wheel, places), places)
            self.assertIs(keeps_turning(wheel, places), True)

    def test_on_one_place(self):
        self.assertEqual([seen((1, 1, 3), (at,)) for at in (0, 1, 2)], [(0,), (0,), (0,)])
        self.assertEqual([strictly_seen((1, 1, 3), (at,)) for at in (0, 1, 2)], [(0,), (-1,), (0,)])
        self.assertEqual([seen_over((1, 1, 3), (at,)) for at in (0, 1, 2)], [(1,), (0,), (1,)])
        self.assertEqual([left_behind((1, 1, 3), (at,)) for at in (0, 1, 2)], [(1,), (0,), (1,)])
        self.assertEqual((seen((-4,), (0,)), strictly_seen((-4,), (0,)), seen_over((-4,), (0,))), ((-4,), (-5,), (-4,)))

    def test_trains(self):
        draw = random.Random(163)
        for k in range(150):
            train = drawn_train(draw, draw.randrange(1, 25), draw.randrange(1, 6))
            places = drawn_places(draw, len(train[0]))
            self.assertEqual(all_seen(train, places), tuple([slow_seen(own, places) for own in train]))
            self.assertEqual(all_strictly_seen(train, places), tuple([slow_strictly(own, places) for own in train]))
            self.assertTrue(is_train(all_seen(train, places)) and is_train(all_strictly_seen(train, places)))

    def test_places_of_another_ring(self):
        for places in ((0, 5), (5,), (-1,), (0, 1, 2, 3, 4, 5)):
            for function in (seen, strictly_seen, seen_over, left_behind, are_kept, kept_within, keeps_turning):
                self.assertRaises(Unfit, function, WHEEL, places)
            for function in (all_seen, all_strictly_seen):
                self.assertRaises(Unfit, function, (WHEEL, FAST), places)
        self.assertRaises(Unfit, all_seen, (), (0,))
        self.assertRaises(Unfit, all_strictly_seen, (), (0,))


class Kept(unittest.TestCase):
    def check(self, wheel, places):
        ring = len(wheel)
        walks = {
            place: {beat_by_beat(wheel, place, beats) % ring for beats in range(1, ring + 1)} for place in places
        }
        self.assertIs(are_kept(wheel, places), all([led_at_once(wheel, place) % ring in places for place in places]))
        self.assertEqual(kept_within(wheel, places), tuple([own for own in places if walks[own] <= set(places)]))
        self.assertIs(keeps_turning(wheel, places), slow_turning(slow_seen(wheel, places)) == slow_turning(wheel))

    def test_small(self):
        for wheel in SMALL[::3]:
            for places in all_places(len(wheel)):
                self.check(wheel, places)

    def test_drawn(self):
        for wheel, places in pairs(164):
            self.check(wheel, places)

    def test_of_five(self):
        for wheel in (WHEEL, FAST, (0, 0, 1, 2, 3), steady(5, 2), (1, 2, 3, 4, 4)):
            for places in all_places(5):
                self.check(wheel, places)

    def test_one_left_out_after_another(self):
        falls = (-1,) + tuple(range(23))
        self.assertEqual(kept_within(falls, tuple(range(1, 24))), ())
        on = tuple(range(1, 24)) + (23,)
        self.assertEqual(kept_within(on, tuple(range(24))), tuple(range(24)))
        self.assertEqual(kept_within(on, tuple(range(23))), ())
        self.assertEqual(kept_within(on, (0, 1, 20, 22, 23)), (22, 23))

    def test_least_keeping(self):
        for wheel in SMALL + a_mix(165):
            place, beats, rounds = slow_return(wheel)
            told = least_keeping(wheel)
            self.assertEqual(told, tuple(sorted({beat_by_beat(wheel, place, many) % len(wheel) for many in range(beats)})))
            self.assertEqual(len(told), beats)
            self.assertIs(are_kept(wheel, told), True)
            self.assertIs(keeps_turning(wheel, told), True)

    def test_least_keeping_of_several_orbits(self):
        self.assertEqual(least_keeping((2, 3, 4, 5)), (0, 2))
        self.assertEqual(least_keeping(steady(24, 10)), tuple(range(0, 24, 2)))
        self.assertEqual(least_keeping((0, 1, 2)), (0,))
        self.assertEqual(least_keeping((0,)), (0,))

    def test_no_fewer_are_kept(self):
        for wheel in SMALL[::2]:
            beats = slow_return(wheel)[1]
            fewest = min([len(places) for places in all_places(len(wheel)) if are_kept(wheel, places)])
            self.assertEqual(fewest, beats)

    def test_if_kept_places_are_among_them_they_keep_turning(self):
        for wheel, places in pairs(166, 60):
            if kept_within(wheel, places) != ():
                turned = slow_turning(wheel)
                self.assertEqual(slow_turning(seen(wheel, places)), turned)
                self.assertEqual(slow_turning(seen_over(wheel, places)), turned)
                self.assertIs(keeps_turning(wheel, places), True)


class HowTheyLieToEachOther(unittest.TestCase):
    def test_they_are_wheels(self):
        for wheel, places in pairs(167):
            for told in (seen(wheel, places), strictly_seen(wheel, places), seen_over(wheel, places)):
                self.assertTrue(is_wheel(told))
                self.assertEqual(len(told), len(places))

    def test_by_how_much_they_turn(self):
        for wheel, places in pairs(168):
            turned = slow_turning(wheel)
            under, over = slow_turning(seen(wheel, places)), slow_turning(seen_over(wheel, places))
            self.assertLessEqual(slow_turning(strictly_seen(wheel, places)), under)
            self.assertTrue(under <= turned <= over)

    def test_over_is_strictly_and_one_place_on(self):
        for wheel, places in pairs(169):
            on = put_together((shift(len(places), 1), strictly_seen(wheel, places)))
            self.assertEqual(seen_over(wheel, places), on)

    def test_seen_twice(self):
        draw = random.Random(170)
        for wheel, places in pairs(171):
            numbers = drawn_places(draw, len(places))
            within = places_within(places, len(wheel), numbers)
            self.assertEqual(within, tuple([places[number] for number in numbers]))
            self.assertEqual(seen(seen(wheel, places), numbers), seen(wheel, within))
            self.assertEqual(seen(strictly_seen(wheel, places), numbers), strictly_seen(wheel, within))

    def test_a_train_put_together_and_seen(self):
        draw = random.Random(172)
        for k in range(150):
            train = drawn_train(draw, draw.randrange(1, 25), draw.randrange(1, 6))
            places = drawn_places(draw, len(train[0]))
            self.assertTrue(is_at_most(put_together(all_seen(train, places)), seen(put_together(train), places)))


class PlacesWithin(unittest.TestCase):
    def test_small(self):
        for places in all_places(4):
            for numbers in all_places(len(places)):
                self.assertEqual(places_within(places, 4, numbers), tuple([places[own] for own in numbers]))

    def test_numbers_on_another_ring(self):
        self.assertEqual(places_within((1, 3), 5, (0, 1)), (1, 3))
        for numbers in ((2,), (0, 2), (), (1, 0), (-1,), (0, 0), None, True):
            self.assertRaises(Unfit, places_within, (1, 3), 5, numbers)
        for places, ring in (((1, 3), 3), ((), 3), ((0,), 0), ((0,), -1), ((0,), True), ((0,), None)):
            self.assertRaises(Unfit, places_within, places, ring, (0,))

    def test_of_one(self):
        self.assertEqual(places_within((23,), 24, (0,)), (23,))
        self.assertEqual(places_within((0,), 1, (0,)), (0,))
        self.assertEqual(places_within(tuple(range(24)), 24, tuple(range(24))), tuple(range(24)))


class Great(unittest.TestCase):
    def test_great_numbers(self):
        draw = random.Random(173)
        for k in range(100):
            wheel = drawn(draw, 10 ** 6)
            places = drawn_places(draw, len(wheel))
            self.assertEqual(seen(wheel, places), slow_seen(wheel, places))
        self.assertEqual(seen((10 ** 30,) * 3, (1,)), (10 ** 30 // 3,))


if __name__ == "__main__":
    unittest.main()
