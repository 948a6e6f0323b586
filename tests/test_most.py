"""The most, [14]."""

import itertools
import math
import random
import unittest
from fractions import Fraction

from bothwheels.errors import TooMany, Unfit
from bothwheels.led import greatest_led
from bothwheels.most import bottoms, is_between, least, most, slack, value_at
from tests.reckoning import (
    SMALL, drawn_train, pair, slow_common, slow_most, slow_together, slow_turning, slow_value, small_wheels, value,
)

HALF, THIRD = (1, 2), (1, 3)


def small_turns():
    """All TURNS of one, two and three FRACTIONS with small numbers."""
    fractions = sorted({Fraction(above, below) for below in (1, 2, 3, 4) for above in range(-below, 2 * below + 1)})
    found = [(own,) for own in fractions] + list(itertools.product(fractions, repeat=2))
    found += list(itertools.combinations_with_replacement(fractions[::3], 3))
    return [tuple([pair(own) for own in turns]) for turns in found]


def drawn_turns(draw, longest=6, below=7):
    """TURNS with a common bottom that is not great."""
    return tuple([
        pair(Fraction(draw.randrange(-20, 40), draw.randrange(1, below + 1))) for k in range(draw.randrange(1, longest + 1))
    ])


class Values(unittest.TestCase):
    def test_by_its_words(self):
        draw = random.Random(201)
        for k in range(500):
            turns, number = drawn_turns(draw, 12, 100), draw.randrange(1, 10 ** draw.randrange(1, 7))
            self.assertEqual(value_at(turns, number), pair(slow_value(turns, number)))

    def test_small(self):
        for turns in small_turns()[::5]:
            for number in range(1, 14):
                self.assertEqual(value_at(turns, number), pair(slow_value(turns, number)))

    def test_beyond_the_limit_of_the_others(self):
        self.assertEqual(value_at(((1, 97), (1, 89)), 1), (1, 1))
        self.assertEqual(value_at(((1, 97), (1, 89), (1, 83)), 97 * 89 * 83), pair(Fraction(97 * 89 + 97 * 83 + 89 * 83 + 2, 97 * 89 * 83)))
        self.assertEqual(value_at(((1, 10 ** 4), (1, 9999)), 9999), pair(Fraction(2, 9999)))
        self.assertEqual(value_at((HALF,), 10 ** 6), HALF)

    def test_of_one(self):
        self.assertEqual([value_at(((2, 3),), own) for own in (1, 2, 3, 4, 5, 6)], [(0, 1), (1, 2), (2, 3), (1, 2), (3, 5), (2, 3)])
        self.assertEqual([value_at(((-2, 3),), own) for own in (1, 2, 3, 4)], [(-1, 1), (-1, 1), (-2, 3), (-3, 4)])

    def test_number_from_1(self):
        for number in (0, -1, -10 ** 6, None, True, "1", 1.0):
            self.assertRaises(Unfit, value_at, (HALF,), number)


class TheMost(unittest.TestCase):
    def check(self, turns):
        told = slow_most(turns)
        last = slow_common(turns)
        self.assertEqual(most(turns), pair(told), turns)
        self.assertEqual(bottoms(turns), tuple([own for own in range(1, last + 1) if slow_value(turns, own) == told]), turns)
        self.assertEqual(slack(turns), pair(told - sum([value(own) for own in turns])))
        contrary = [(-above, below) for above, below in turns]
        self.assertEqual(least(turns), pair(-slow_most(contrary)), turns)

    def test_small(self):
        for turns in small_turns():
            self.check(turns)

    def test_drawn(self):
        draw = random.Random(202)
        for k in range(150):
            self.check(drawn_turns(draw))

    def test_many_fractions(self):
        draw = random.Random(203)
        for k in range(10):
            self.check(tuple([pair(Fraction(draw.randrange(-6, 13), draw.choice((1, 2, 3, 4, 6, 12)))) for own in range(12)]))

    def test_is_between(self):
        for turns in small_turns()[::7]:
            low, high = -slow_most([(-above, below) for above, below in turns]), slow_most(turns)
            for goal in (low, high, (low + high) / 2):
                self.assertIs(is_between(turns, pair(goal)), True, (turns, goal))
            for away in (Fraction(1, 10 ** 4), Fraction(1, 2), 10 ** 6):
                self.assertIs(is_between(turns, pair(low - away)), False)
                self.assertIs(is_between(turns, pair(high + away)), False)

    def test_of_one_it_is_itself(self):
        for below in range(1, 30):
            for above in range(-2 * below, 2 * below):
                if math.gcd(above, below) == 1:
                    turns = ((above, below),)
                    self.assertEqual((most(turns), least(turns), slack(turns)), ((above, below), (above, below), (0, 1)))
                    self.assertEqual(bottoms(turns), (below,))

    def test_how_they_lie(self):
        draw = random.Random(204)
        for k in range(100):
            turns = drawn_turns(draw)
            total = sum([value(own) for own in turns])
            self.assertTrue(total <= value(most(turns)) < total + len(turns))
            self.assertLessEqual(value(least(turns)), total)
            mixed = list(turns)
            draw.shuffle(mixed)
            self.assertEqual((most(mixed), least(mixed)), (most(turns), least(turns)))
            at = draw.randrange(len(turns))
            above, below = turns[at]
            on = turns[:at] + ((above + below, below),) + turns[at + 1:]
            self.assertEqual(value(most(on)), value(most(turns)) + 1)
            self.assertEqual(value(least(on)), value(least(turns)) + 1)
            further = turns[:at] + (pair(value(turns[at]) + Fraction(1, draw.randrange(1, 8))),) + turns[at + 1:]
            self.assertLessEqual(value(most(turns)), value(most(further)))


class TheLimit(unittest.TestCase):
    FUNCTIONS = (most, least, bottoms, slack, lambda turns: is_between(turns, HALF))

    def test_just_at_it(self):
        self.assertEqual(most(((1, 2000),)), (1, 2000))
        self.assertEqual(bottoms(((1, 2000),)), (2000,))
        self.assertEqual((least(((1, 2000),)), slack(((1, 2000),))), ((1, 2000), (0, 1)))
        for turns in (((1, 16), (1, 125)), ((1, 54), (5, 37)), ((7, 95), (2, 21))):
            self.assertIn(slow_common(turns), (2000, 1998, 1995))
            self.assertEqual(most(turns), pair(slow_most(turns)))
            self.assertEqual(least(turns), pair(-slow_most([(-above, below) for above, below in turns])))
            self.assertIs(is_between(turns, most(turns)), True)

    def test_just_above_it(self):
        for turns in (((1, 2001),), ((1, 69), (1, 29)), ((1, 77), (3, 26)), ((1, 41), (1, 53)), ((1, 2), (1, 1001)), ((-1, 2003),)):
            self.assertGreater(slow_common(turns), 2000)
            for function in self.FUNCTIONS:
                self.assertRaises(TooMany, function, turns)
            value_at(turns, 10 ** 6)

    def test_unfit_is_ahead_of_it(self):
        great = ((1, 41), (1, 53))
        for function in self.FUNCTIONS:
            for turns in ((), great + ((2, 4),), ((1, 0),) + great, great + (None,), None, great + ((1, True),)):
                self.assertRaises(Unfit, function, turns)
        for fraction in ((2, 4), None, (1, 0), 1, (True, 2)):
            self.assertRaises(Unfit, is_between, great, fraction)
        self.assertRaises(TooMany, is_between, great, HALF)


class Trains(unittest.TestCase):
    """What the numbers are about: no train turns by more than MOST, by less than LEAST; some turn so."""

    def check(self, train):
        turns = tuple([pair(slow_turning(wheel)) for wheel in train])
        together = slow_turning(slow_together(train))
        self.assertTrue(-slow_most([(-above, below) for above, below in turns]) <= together <= slow_most(turns))
        self.assertIs(is_between(turns, pair(together)), True, train)

    def test_all_small_pairs(self):
        for places in (1, 2, 3):
            wheels = small_wheels(places, 0, places - 1)
            for train in itertools.product(wheels, repeat=2):
                self.check(train)

    def test_drawn(self):
        draw = random.Random(205)
        for k in range(200):
            self.check(drawn_train(draw, draw.randrange(1, 8), draw.randrange(1, 5), 20))

    def test_some_turn_so(self):
        thirds = [wheel for wheel in SMALL if slow_turning(wheel) == Fraction(1, 3)]
        self.assertEqual(most((THIRD,)), THIRD)
        self.assertTrue(thirds)
        ring = 6
        halves = [greatest_led(own, 1, ring) for own in itertools.combinations(range(ring), 2)]
        thirds = [greatest_led(own, 1, ring) for own in itertools.combinations(range(ring), 3)]
        turned = max([slow_turning(slow_together((f, g))) for f in halves for g in thirds])
        self.assertEqual(most((HALF, THIRD)), pair(turned))


if __name__ == "__main__":
    unittest.main()
