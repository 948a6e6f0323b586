"""One judge, [21]."""

import itertools
import random
import unittest
from fractions import Fraction

from bothwheels.errors import TooMany, Unfit
from bothwheels.judge import first_fallen, is_demand, is_paper_against, is_reason_for, is_so, paper_against, reason_for
from tests.reckoning import (
    beat_by_beat, drawn_train, drawn_wheel, led_at_once, pair, slow_common, slow_most, slow_together, slow_turning, small_wheels,
    steady, value,
)
from tests.rowreckoning import in_word, on_rows, slow_most_of

ON, SLIP = (1, 2, 3), (0, 0, 3)
HALF, THIRD = (1, 2), (1, 3)
GREAT = ((1, 41), (1, 53))


def near(told):
    """FRACTIONS that are just it, just above and below it, and further off."""
    return [pair(told + own) for own in (0, Fraction(1, 1000), Fraction(-1, 1000), Fraction(1, 2), -1, 5, -100)]


class Judged(unittest.TestCase):
    def check(self, demand, so):
        """It stands exactly if it has a REASON, exactly if there is no PAPER against it."""
        self.assertIs(is_demand(demand), True)
        self.assertIs(is_so(demand), so, demand)
        paper, reason = paper_against(demand), reason_for(demand)
        self.assertEqual((paper is None, reason is None), (so, not so), demand)
        self.assertIs(is_paper_against(demand, paper), not so)
        self.assertIs(is_reason_for(demand, reason), so)
        for thing in (None, [], True, 0, "", demand, (paper,), (reason,), [paper], list(paper or ()), list(reason or ())):
            self.assertIs(is_paper_against(demand, thing), False, (demand, thing))
            self.assertIs(is_reason_for(demand, thing), False, (demand, thing))
        return reason if so else paper


class Trains(Judged):
    def trains(self, seed, many=60):
        draw = random.Random(seed)
        found = [(ON, SLIP), (ON, ON), ((0,),), ((-7,), (3,)), (steady(5, 2), steady(5, -1))]
        return found + [drawn_train(draw, draw.randrange(1, 13), draw.randrange(1, 6), 20) for k in range(many)]

    def test_stands_and_falls(self):
        for train in self.trains(381):
            wheel = slow_together(train)
            turned = slow_turning(wheel)
            for goal in near(turned):
                so = turned <= value(goal)
                place, beats, rounds = self.check(("train", train, goal), so)
                at = beat_by_beat(wheel, place, beats)
                self.assertTrue(0 <= place < len(wheel) and beats >= 1)
                if so:
                    self.assertTrue(Fraction(rounds, beats) <= value(goal) and at <= place + rounds * len(wheel))
                else:
                    self.assertTrue(Fraction(rounds, beats) > value(goal) and at >= place + rounds * len(wheel))

    def test_all_triples(self):
        for train in self.trains(382, 6):
            wheel = slow_together(train)
            turned = slow_turning(wheel)
            for goal in near(turned)[:5]:
                demand = ("train", train, goal)
                for place, beats, rounds in itertools.product(range(-1, len(wheel) + 1), range(4), range(-9, 10)):
                    thing = (place, beats, rounds)
                    if beats < 1 or not 0 <= place < len(wheel):
                        self.assertFalse(is_paper_against(demand, thing) or is_reason_for(demand, thing))
                        continue
                    gain, far = beat_by_beat(wheel, place, beats), place + rounds * len(wheel)
                    above = Fraction(rounds, beats) > value(goal)
                    self.assertIs(is_paper_against(demand, thing), above and gain >= far, (demand, thing))
                    self.assertIs(is_reason_for(demand, thing), not above and gain <= far, (demand, thing))

    def test_what_is_found_is_only_where_it_belongs(self):
        # A PAPER is one only if it falls, a REASON only if it stands: no triple is both.
        for train in self.trains(383, 20):
            wheel = slow_together(train)
            for goal in near(slow_turning(wheel)):
                demand = ("train", train, goal)
                for place, beats, rounds in itertools.product(range(len(wheel)), (1, 2, 3), range(-4, 5)):
                    if is_paper_against(demand, (place, beats, rounds)):
                        self.assertIs(is_so(demand), False)
                    if is_reason_for(demand, (place, beats, rounds)):
                        self.assertIs(is_so(demand), True)

    def test_beats_of_31_figures(self):
        demand = ("train", (ON, SLIP), (-1, 10 ** 4))
        self.assertIs(is_paper_against(demand, (2, 10 ** 30, 0)), True)
        self.assertIs(is_paper_against(demand, (2, 10 ** 30, 1)), False)
        self.assertIs(is_paper_against(demand, (2, 10 ** 30, -10 ** 26)), False)
        self.assertIs(is_paper_against(demand, (2, 10 ** 30, -10 ** 26 + 1)), True)
        self.assertIs(is_reason_for(("train", (ON,), HALF), (0, 10 ** 30, 5 * 10 ** 29)), True)
        self.assertIs(is_reason_for(("train", (ON,), HALF), (0, 10 ** 30, 5 * 10 ** 29 + 1)), False)
        self.assertIs(is_reason_for(("train", (ON,), HALF), (0, 3 * 10 ** 29, 10 ** 29)), True)
        self.assertIs(is_reason_for(("train", (ON,), HALF), (0, 3 * 10 ** 29, 10 ** 29 - 1)), False)

    def test_bent(self):
        demand, fallen = ("train", (ON, SLIP), (0, 1)), ("train", (ON, SLIP), (-1, 2))
        for judge, told, good in ((is_reason_for, demand, (1, 1, 0)), (is_paper_against, fallen, (1, 3, -1))):
            self.assertIs(judge(told, good), True)
            for bent in (
                good[:2], good + (0,), list(good), (3,) + good[1:], (-1,) + good[1:], (True,) + good[1:], good[:1] + (0,) + good[2:],
                good[:1] + (-1,) + good[2:], good[:1] + (True,) + good[2:], good[:2] + (None,), good[:2] + ("0",), good[:2] + (0.0,),
                (good,), (None,) + good[1:],
            ):
                self.assertIs(judge(told, bent), False, bent)


class Most(Judged):
    TURNS = (
        ((0, 1),), (HALF, THIRD), ((4, 7), (5, 9)), ((2, 3),) * 3, ((-1, 2), THIRD), ((-3, 4), (-5, 6), (1, 4)), ((0, 1),) * 5, ((3, 1), (-7, 2)),
        ((1, 12),) * 12, ((99, 100),),
    )

    def test_stands_and_falls(self):
        for turns in self.TURNS:
            told = slow_most(turns)
            for goal in near(told):
                so = told <= value(goal)
                found = self.check(("most", turns, goal), so)
                if so:
                    self.assertEqual(found, self.wholes(turns))
                else:
                    self.assertEqual([slow_turning(own) for own in found], [value(own) for own in turns])
                    self.assertGreater(slow_turning(slow_together(found)), value(goal))

    def wholes(self, turns):
        return tuple([
            sum([(number * value(own)).__floor__() for own in turns]) + len(turns) - 1
            for number in range(1, slow_common(turns) + 1)
        ])

    def test_papers_are_trains_that_turn_by_more(self):
        turns = (HALF, (0, 1))
        wheels = small_wheels(2, -1, 1) + small_wheels(3, 0, 1)
        for goal in ((1, 1), HALF, (1, 4), (-1, 1)):
            demand = ("most", turns, goal)
            for train in itertools.product(wheels, repeat=2):
                so = len(train[0]) == len(train[1]) and [slow_turning(own) for own in train] == [value(own) for own in turns]
                so = so and slow_turning(slow_together(train)) > value(goal)
                self.assertIs(is_paper_against(demand, train), so, train)

    def test_bent(self):
        demand = ("most", (HALF, THIRD), (1, 1))
        good = (1, 2, 3, 4, 4, 6)
        self.assertIs(is_reason_for(demand, good), True)
        for bent in (good[:5], good + (7,), list(good), (True,) + good[1:], good[:5] + (7,), (good,), good[::-1], good[:3] + (4.0,) + good[4:]):
            self.assertIs(is_reason_for(demand, bent), False)
        fallen = ("most", (HALF, THIRD), (5, 6))
        self.assertIs(is_reason_for(fallen, good), False)
        for bent in (((1, 2), (0, 2)), (steady(6, 3), steady(6, 2)), ((3, 3, 5, 5, 7, 7), (3, 6, 6, 6, 9, 9)), ((3, 6, 6, 6, 9, 9),)):
            self.assertIs(is_paper_against(fallen, bent), False)

    def test_too_many(self):
        self.assertIs(is_so(("most", ((1, 2000),), (1, 2000))), True)
        self.assertEqual(reason_for(("most", ((1, 2000),), (1, 2000))), (0,) * 1999 + (1,))
        for turns in (GREAT, ((1, 2001),)):
            for goal in ((100, 1), (-100, 1)):
                demand = ("most", turns, goal)
                self.assertIs(is_demand(demand), True)
                for function in (is_so, paper_against, reason_for):
                    self.assertRaises(TooMany, function, demand)
                for function in (is_paper_against, is_reason_for):
                    self.assertRaises(TooMany, function, demand, None)


class Words(Judged):
    CASES = (
        ((0, 1), (HALF, THIRD)), ((0, 1), (HALF, HALF)), ((0, 0, 1), (HALF, THIRD)), ((0, 1, 0, 1), ((-1, 2), (2, 3))), ((0,), ((2, 3),)),
        ((0, 1, 2), (HALF, (0, 1), HALF)), ((0, 0), ((-5, 4),)), ((1, 0, 0, 1, 1), ((0, 1), (1, 4))),
    )

    def test_stands_and_falls(self):
        for word, turns in self.CASES:
            told = slow_most_of(word, turns)
            for goal in near(told):
                so = told < value(goal)
                found = self.check(("word", word, turns, goal), so)
                if so:
                    self.assertEqual(found, on_rows(word, turns))
                else:
                    self.assertEqual([slow_turning(own) for own in found], [value(own) for own in turns])
                    self.assertGreaterEqual(slow_turning(in_word(found, word)), value(goal))

    def test_papers_are_trains_that_turn_so_or_more(self):
        turns = (HALF, (0, 1))
        wheels = small_wheels(2, -1, 1) + small_wheels(3, 0, 1)
        for goal in ((2, 1), (3, 2), (1, 1)):
            demand = ("word", (0, 0, 1), turns, goal)
            stands = slow_most_of((0, 0, 1), turns) < value(goal)
            for train in itertools.product(wheels, repeat=2):
                so = len(train[0]) == len(train[1]) and [slow_turning(own) for own in train] == [value(own) for own in turns]
                so = so and slow_turning(in_word(train, (0, 0, 1))) >= value(goal)
                self.assertIs(is_paper_against(demand, train), so, train)
                self.assertFalse(so and stands)

    def test_bent(self):
        demand = ("word", (0, 1), (HALF, HALF), (2, 1))
        good = on_rows((0, 1), (HALF, HALF))
        self.assertIs(is_reason_for(demand, good), True)
        for bent in (good[:1], good + good[:1], list(good), good[::-1], (), (good,), (good[0], (good[1][0], (True, 2, 3)))):
            self.assertIs(is_reason_for(demand, bent), False)
        self.assertIs(is_reason_for(("word", (0, 1), (HALF, HALF), (3, 2)), good), False)

    def test_too_many(self):
        for turns in (((1, 7), (1, 6)), ((1, 600), (0, 1))):
            for goal in ((100, 1), (-100, 1)):
                demand = ("word", (0, 1), turns, goal)
                self.assertIs(is_demand(demand), True)
                for function in (is_so, paper_against, reason_for):
                    self.assertRaises(TooMany, function, demand)
                for function in (is_paper_against, is_reason_for):
                    self.assertRaises(TooMany, function, demand, None)
        self.assertIs(is_so(("word", (0, 1, 2), ((1, 23), (0, 1), (0, 1)), (3, 1))), True)


class Teeth(Judged):
    def pairs(self, seed):
        draw = random.Random(seed)
        found = [((0,), (0,)), ((0,), (-3,)), (SLIP, (0, 1, 3)), ((0, 1, 1, 3), (0, 0, 2, 4)), (steady(24, 0), steady(24, 3))]
        for k in range(40):
            places = draw.randrange(1, 9)
            found.append((drawn_wheel(draw, places, 12), drawn_wheel(draw, places, 12)))
        return found

    def test_stands_and_falls(self):
        for wheel, other in self.pairs(384):
            many = sum([abs(a - b) for a, b in zip(wheel, other)])
            for number in {0, many - 1, many, many + 1, 10 ** 6}:
                if number < 0:
                    continue
                so = many <= number
                found = self.check(("teeth", wheel, other, number), so)
                if so:
                    self.assertLessEqual(len(found), number)
                    self.assertEqual(self.led(wheel, found), other)
                else:
                    self.assertEqual(found, tuple([b - a for a, b in zip(wheel, other)]))

    def led(self, wheel, told):
        """Where a PLAN leads, each step a WHEEL."""
        for place, way in told:
            wheel = tuple([number + way if at == place else number for at, number in enumerate(wheel)])
            numbers = [led_at_once(wheel, z) for z in range(len(wheel) + 1)]
            self.assertEqual(numbers, sorted(numbers))
        return wheel

    def test_longer_plans_are_reasons_too(self):
        demand = ("teeth", SLIP, (0, 1, 3), 3)
        for good in (((1, 1),), ((1, 1), (1, -1), (1, 1)), ((2, -1), (1, 1), (2, 1)), ((1, 1), (0, 1), (0, -1))):
            self.assertIs(is_reason_for(demand, good), True)
            self.assertIs(is_reason_for(("teeth", SLIP, (0, 1, 3), len(good)), good), True)
            if len(good) > 1:
                self.assertIs(is_reason_for(("teeth", SLIP, (0, 1, 3), len(good) - 1), good), False)
        for bent in (
            (), ((1, 1), (1, 1)), ((1, 1), (1, -1)), ((0, 1), (1, 1), (0, -1)), ((1, 1), (3, 1)), [(1, 1)], ([1, 1],), ((1, True),), ((1, 1), None),
            ((1, 1), (2, 1), (2, -1), (2, 1), (2, -1)), ((1, 2),), (1, 1),
        ):
            self.assertIs(is_reason_for(demand, bent), False, bent)

    def test_bent_papers(self):
        fallen = ("teeth", SLIP, (0, 1, 3), 0)
        self.assertIs(is_paper_against(fallen, (0, 1, 0)), True)
        for bent in ((0, 1), (0, 1, 0, 0), [0, 1, 0], (0, -1, 0), (0, True, 0), (False, 1, 0), (0, 2, 0), ((0, 1, 0),), None, 1):
            self.assertIs(is_paper_against(fallen, bent), False)
        self.assertIs(is_paper_against(("teeth", SLIP, (0, 1, 3), 1), (0, 1, 0)), False)
        self.assertEqual(paper_against(("teeth", (0, 1, 3), SLIP, 0)), (0, -1, 0))

    def test_too_long_plans(self):
        at = ("teeth", (0,), (2000,), 10 ** 6)
        self.assertEqual(reason_for(at), ((0, 1),) * 2000)
        above = ("teeth", (0,), (2001,), 10 ** 6)
        self.assertRaises(TooMany, reason_for, above)
        # Where it falls no PLAN is told.
        self.assertIsNone(reason_for(("teeth", (0,), (2001,), 2000)))
        self.assertEqual((is_so(above), paper_against(above)), (True, None))
        self.assertEqual(paper_against(("teeth", (0,), (2001,), 2000)), (2001,))
        self.assertIs(is_reason_for(above, ((0, 1),) * 2001), True)
        self.assertIs(is_reason_for(above, ((0, 1),) * 2000), False)
        self.assertEqual(first_fallen((above, ("teeth", (0,), (2001,), 5))), 1)


class Several(unittest.TestCase):
    STAND = (("most", (HALF,), HALF), ("train", (ON, SLIP), (0, 1)), ("word", (0, 1), (HALF, THIRD), (5, 4)), ("teeth", SLIP, (0, 1, 3), 1))
    FALL = (("most", (HALF,), THIRD), ("train", (ON, ON), HALF), ("word", (0, 1), (HALF, THIRD), (1, 1)), ("teeth", SLIP, (0, 1, 3), 0))
    TOO_MANY = ("most", GREAT, (5, 1))

    def test_first_fallen(self):
        self.assertIsNone(first_fallen(()))
        self.assertIsNone(first_fallen(self.STAND))
        self.assertIsNone(first_fallen(list(self.STAND) * 3))
        for at in range(len(self.STAND) + 1):
            for fall in self.FALL:
                self.assertEqual(first_fallen(self.STAND[:at] + (fall,) + self.STAND[at:]), at)
                self.assertEqual(first_fallen(self.STAND[:at] + (fall,) + self.FALL), at)

    def test_too_many_where_it_comes_to_it(self):
        self.assertRaises(TooMany, first_fallen, self.STAND + (self.TOO_MANY,))
        self.assertRaises(TooMany, first_fallen, (self.TOO_MANY,) + self.FALL)
        self.assertEqual(first_fallen(self.FALL[:1] + (self.TOO_MANY,)), 0)
        self.assertEqual(first_fallen(self.STAND + self.FALL[1:] + (self.TOO_MANY,)), len(self.STAND))
        self.assertRaises(TooMany, first_fallen, (("word", (0, 1), ((1, 7), (1, 6)), (9, 1)),))

    def test_unfit_is_ahead_of_all(self):
        for wrong in (None, (), ("most", (HALF,)), ("most", (HALF,), (2, 4)), ("teeth", SLIP, (0,), 1), "most", ("mos", (HALF,), HALF)):
            for demands in ((self.TOO_MANY, wrong), self.FALL + (wrong,), (wrong,) + self.STAND):
                self.assertRaises(Unfit, first_fallen, demands)
            for function in (is_so, paper_against, reason_for):
                self.assertRaises(Unfit, function, wrong)
            for function in (is_paper_against, is_reason_for):
                for thing in (None, (), self.FALL):
                    self.assertRaises(Unfit, function, wrong, thing)
        self.assertRaises(Unfit, first_fallen, None)
        self.assertRaises(Unfit, first_fallen, self.STAND[0])

    def test_is_demand(self):
        for demand in self.STAND + self.FALL + (self.TOO_MANY,):
            self.assertIs(is_demand(demand), True)
            self.assertIs(is_demand(list(demand)), False)
            self.assertIs(is_demand(demand + (0,)), False)
            self.assertIs(is_demand(demand[:-1]), False)
            self.assertIs(is_demand((demand[0].upper(),) + demand[1:]), False)
        # What may be told by both of two kinds.
        self.assertIs(is_demand(("train", ((0, 1), (0, 1)), (0, 1))), True)
        self.assertIs(is_demand(("most", ((0, 1), (0, 1)), (0, 1))), True)


if __name__ == "__main__":
    unittest.main()
