"""Ladders, [13]."""

import itertools
import random
import unittest
from fractions import Fraction

from bothwheels.errors import CanNot, Unfit
from bothwheels.ladders import (
    bound_of, broken_at, end_of, first_rung, is_ladder, is_rung, ladder, next_rung, ring_of, rung_turning, rung_word,
)
from bothwheels.most import most
from tests.reckoning import (
    beat_by_beat, drawn_train, last_placed, led_at_once, pair, slow_most, slow_return, slow_together, slow_turning,
    slow_value, small_wheels, steady, told_by, value,
)

TRAIN = ((1, 2, 3), (2, 4, 4), (1, 1, 2))
SLOW, FAST = (0, 0, 0, 4), (1, 3, 3, 5)


def returning(wheel):
    """The places of the orbit that the return of wheel tells, and by how many of them it leads these."""
    place, beats, rounds = slow_return(wheel)
    kept = tuple(sorted([beat_by_beat(wheel, place, many) % len(wheel) for many in range(beats)]))
    return kept, last_placed(kept, len(wheel), led_at_once(wheel, kept[0]))


def told_rung(kept, steps, where, many):
    """A RUNG: where tells for each of so many WHEELS to what number it leads a number, last it is seen on kept."""
    return (len(kept), steps, tuple([
        tuple([where(own, place) for place in kept]) for own in range(many)
    ]))


def slow_first_rung(train):
    ring = len(train[0])
    kept, steps = returning(train[0])
    return told_rung(
        kept, steps, lambda own, place: last_placed(kept, ring, led_at_once(train[own + 1], place) - 1), len(train) - 1,
    )


def slow_next_rung(rung):
    ring, steps, train = rung
    at = [is_steady(wheel) for wheel in train].index(False)
    kept, by = returning(train[at])

    def where(own, place):
        own += at + 1
        if own < len(train):
            to = led_at_once(train[own], place)
        elif own == len(train):
            to = place + steps
        else:
            to = led_at_once(train[own - len(train) - 1], place + 1) - 1
        return last_placed(kept, ring, to)

    return told_rung(kept, by, where, len(train))


def is_steady(wheel):
    return wheel == steady(len(wheel), wheel[0])


def slow_ladder(train):
    found = [slow_first_rung(train)]
    while not all([is_steady(wheel) for wheel in found[-1][2]]):
        found.append(slow_next_rung(found[-1]))
    return tuple(found)


def slow_rung_word(rung):
    ring, steps, train = rung
    found = []
    for number in range(ring):
        for wheel in reversed(train):
            number = led_at_once(wheel, number) + 1
        found.append(number + steps)
    return tuple(found)


def slow_end(rungs):
    ring, steps, train = rungs[-1]
    return pair(Fraction(steps + sum([wheel[0] for wheel in train]) + len(train), ring))


def turns_of(train):
    return tuple([pair(slow_turning(wheel)) for wheel in train])


def trains(seed, many=150, size=60):
    """Drawn trains; those of one WHEEL and of SHIFTS alone among them."""
    draw = random.Random(seed)
    found = [drawn_train(draw, draw.randrange(1, 25), draw.randrange(1, 6), size) for k in range(many)]
    for k in range(10):
        places = draw.randrange(1, 25)
        found.append(tuple([steady(places, draw.randrange(-50, 50)) for own in range(draw.randrange(1, 6))]))
        found.append(drawn_train(draw, places, 1, size))
    return found


def small_trains(places, many):
    return list(itertools.product(small_wheels(places, 0, places - 1), repeat=many))


class Rungs(unittest.TestCase):
    def test_is_rung(self):
        for thing in ((1, 0, ()), (24, 10 ** 6, ()), (3, -1, (steady(3, 2),) * 9), (2, 0, ((0, 0), (1, 3))), (100, 0, ())):
            self.assertIs(is_rung(thing), True, thing)
        for thing in ((0, 0, ()), (-1, 0, ()), (3, 0, ((0, 1),)), (2, 0, ((0, 1), (1, 0))), (2, 0, (0, 1)), (2, 0), ((0, 1),)):
            self.assertIs(is_rung(thing), False, thing)

    def test_rung_word(self):
        for train in trains(221, 100):
            for rung in slow_ladder(train):
                told = slow_rung_word(rung)
                self.assertEqual(rung_word(rung), told)
                self.assertEqual(rung_turning(rung), pair(slow_turning(told)))

    def test_of_any_rung(self):
        draw = random.Random(222)
        for k in range(100):
            ring = draw.randrange(1, 25)
            rung = (ring, draw.randrange(-50, 50), drawn_train(draw, ring, draw.randrange(5)))
            self.assertEqual(rung_word(rung), slow_rung_word(rung))
            if not all([is_steady(wheel) for wheel in rung[2]]):
                self.assertEqual(next_rung(rung), slow_next_rung(rung))
            else:
                self.assertRaises(CanNot, next_rung, rung)

    def test_without_wheels(self):
        self.assertEqual(rung_word((3, -4, ())), (-4, -3, -2))
        self.assertEqual(rung_turning((3, -4, ())), (-4, 3))
        self.assertRaises(CanNot, next_rung, (3, -4, ()))

    def test_one_place_on_behind_each_wheel(self):
        self.assertEqual(rung_word((2, 5, ((0, 2), (0, 0)))), (8, 8))
        self.assertEqual(rung_word((4, 0, (SLOW,))), (1, 1, 1, 5))
        self.assertEqual(rung_word((4, 0, (SLOW, FAST))), (1, 5, 5, 5))
        self.assertEqual(rung_word((4, 0, (FAST, SLOW))), (4, 4, 4, 8))

    def test_of_shifts_alone_there_is_no_next(self):
        for rung in ((1, 0, ((0,),)), (1, 7, ((-3,), (10 ** 6,))), (5, 2, (steady(5, 1), steady(5, -9)))):
            self.assertRaises(CanNot, next_rung, rung)
            self.assertRaises(CanNot, next_rung, [rung[0], rung[1], [list(wheel) for wheel in rung[2]]])

    def test_shifts_ahead_of_the_first_that_is_none(self):
        rung = (4, 1, (steady(4, 2), FAST, SLOW))
        self.assertEqual(next_rung(rung), slow_next_rung(rung))
        self.assertEqual(next_rung(rung), (2, 1, ((-1, 1), (0, 1), (1, 2))))


class Ladders(unittest.TestCase):
    def check(self, train):
        rungs = slow_ladder(train)
        self.assertEqual(first_rung(train), rungs[0], train)
        self.assertEqual(ladder(train), rungs, train)
        for rung, behind in zip(rungs, rungs[1:]):
            self.assertEqual(next_rung(rung), behind)
        self.assertRaises(CanNot, next_rung, rungs[-1])
        self.assertEqual(end_of(rungs), slow_end(rungs))
        self.assertEqual(ring_of(rungs), rungs[-1][0])
        self.assertEqual(bound_of(train), (slow_end(rungs), pair(slow_value(turns_of(train), rungs[-1][0]))))
        self.assertIs(is_ladder(train, rungs), True)
        self.assertIsNone(broken_at(train, rungs))
        self.bounds(train, rungs)

    def bounds(self, train, rungs):
        """No TRAIN turns by more than the end of its LADDER, the end is no more than MOST."""
        places = len(train[0])
        self.assertLessEqual(len(rungs), places)
        sizes = [rung[0] for rung in rungs]
        self.assertEqual(sizes, sorted(set(sizes), reverse=True))
        self.assertLessEqual(sizes[0], places)
        turned = [slow_turning(slow_together(train))] + [slow_turning(slow_rung_word(rung)) for rung in rungs]
        self.assertEqual(turned, sorted(turned))
        end, at_ring = [value(own) for own in bound_of(train)]
        self.assertEqual(turned[-1], end)
        self.assertLessEqual(end, at_ring)
        greatest = max([abs(number) for wheel in train for number in wheel])
        for ring, steps, wheels in rungs:
            numbers = [steps] + [number for wheel in wheels for number in wheel]
            self.assertLessEqual(max([abs(number) for number in numbers]), greatest + places * places)

    def test_all_small_pairs(self):
        for places in (1, 2, 3):
            for train in small_trains(places, 2):
                self.check(train)

    def test_all_small_triples(self):
        for train in small_trains(2, 3):
            self.check(train)
        draw = random.Random(223)
        for train in draw.sample(small_trains(3, 3), 300):
            self.check(train)

    def test_drawn(self):
        for train in trains(224):
            self.check(train)

    def test_great_numbers(self):
        for train in trains(225, 40, 10 ** 6):
            self.check(train)

    def test_the_end_is_at_most_most(self):
        for train in trains(226, 60):
            turns = turns_of(train)
            bottom = 1
            for above, below in turns:
                bottom = bottom * below
            if bottom <= 1500:
                told = end_of(ladder(train))
                self.assertLessEqual(value(told), slow_most(turns))
                self.assertLessEqual(value(told), value(most(turns)))

    def test_the_end_is_at_most_most_for_small_trains(self):
        for train in small_trains(3, 2):
            self.assertLessEqual(value(end_of(ladder(train))), slow_most(turns_of(train)))

    def test_of_one_wheel(self):
        for places in (1, 2, 3, 4):
            for wheel in small_wheels(places, -1, 2):
                place, beats, rounds = slow_return(wheel)
                self.assertEqual(ladder((wheel,)), ((beats, rounds, ()),))
                self.assertEqual(end_of(ladder((wheel,))), (rounds, beats))
                self.assertEqual(bound_of((wheel,)), ((rounds, beats), (rounds, beats)))

    def test_of_shifts_alone(self):
        self.assertEqual(ladder((steady(6, 2), steady(6, 1))), ((3, 1, ((0, 1, 2),)),))
        self.assertEqual(bound_of((steady(6, 2), steady(6, 1))), ((2, 3), (2, 3)))
        self.assertEqual(ladder((steady(6, 1), steady(6, 2))), ((6, 1, (steady(6, 1),)),))
        self.assertEqual(end_of(ladder((steady(6, 1), steady(6, 2)))), (1, 2))

    def test_of_several_rungs(self):
        longest = max([len(ladder(train)) for train in trains(227, 300)])
        self.assertGreaterEqual(longest, 4)
        self.assertEqual({len(ladder(train)) for train in trains(227, 300)} & {1, 2, 3}, {1, 2, 3})

    def test_in_another_order_it_may_be_another(self):
        self.assertEqual(len(ladder((SLOW, FAST))), 1)
        self.assertEqual(len(ladder((FAST, SLOW))), 2)


class Ends(unittest.TestCase):
    def test_of_no_train(self):
        self.assertEqual(end_of(((2, 3, ()),)), (3, 2))
        self.assertEqual(end_of(((2, 3, ((5, 6),)),)), (9, 2))
        self.assertEqual(end_of(((2, 3, ((5, 6), (-1, 0))),)), (9, 2))
        self.assertEqual(end_of(((1, 0, ()), (4, -2, (steady(4, 4),)))), (3, 4))
        self.assertEqual(ring_of(((1, 0, ()), (4, -2, (steady(4, 4),)))), 4)
        self.assertEqual(end_of(((6, 4, ()),)), (2, 3))

    def test_the_others_may_be_any(self):
        self.assertEqual(end_of(((3, 1, ((0, 0, 1),)), (3, 1, ((0, 0, 1),)), (1, 5, ()))), (5, 1))
        self.assertEqual(ring_of([[3, 1, [[0, 0, 1]]], [7, 5, []]]), 7)

    def test_unfit(self):
        for told in ((), ((3, 1, ((0, 0, 1),)),), ((1, 5, ()), (3, 1, (steady(3, 2), (0, 0, 1)))), (3, 1, ()), ((0, 1, ()),), None):
            self.assertRaises(Unfit, end_of, told)
            self.assertRaises(Unfit, ring_of, told)

    def test_what_is_no_rung_ahead_of_the_last(self):
        for wrong in (None, (3, 1), (0, 1, ()), (3, True, ()), (3, 1, ((0, 1),)), ((3, 1, ()),)):
            self.assertRaises(Unfit, end_of, (wrong, (1, 5, ())))
            self.assertRaises(Unfit, ring_of, (wrong, (1, 5, ())))
            self.assertRaises(Unfit, broken_at, TRAIN, (wrong, (1, 5, ())))


class Judged(unittest.TestCase):
    def test_lacking_and_too_many(self):
        for train in trains(228, 60):
            rungs = ladder(train)
            for many in range(len(rungs)):
                self.assertEqual(broken_at(train, rungs[:many]), many)
                self.assertIs(is_ladder(train, rungs[:many]), False)
            for more in (rungs[-1], rungs[0], (1, 0, ())):
                self.assertEqual(broken_at(train, rungs + (more,)), len(rungs))
                self.assertEqual(broken_at(train, rungs + (more,) * 3), len(rungs))
                self.assertIs(is_ladder(train, rungs + (more,)), False)

    def test_another_rung(self):
        draw = random.Random(229)
        for train in trains(230, 60):
            rungs = ladder(train)
            at = draw.randrange(len(rungs))
            ring, steps, wheels = rungs[at]
            others = [(ring, steps + 1, wheels), (ring, steps - ring, wheels), (ring, steps, wheels + (steady(ring, 0),))]
            others.append((ring, steps, wheels[:-1]) if wheels else (ring + 1, steps, ()))
            if wheels:
                others.append((ring, steps, tuple([told_by(ring, lambda z: led_at_once(own, z) + 1) for own in wheels])))
            for other in others:
                told = rungs[:at] + (other,) + rungs[at + 1:]
                self.assertEqual(broken_at(train, told), at)
                self.assertIs(is_ladder(train, told), False)

    def test_the_first_of_several(self):
        rungs = ladder(TRAIN)
        self.assertEqual(len(rungs), 3)
        self.assertEqual(broken_at(TRAIN, (rungs[0], rungs[2], rungs[1])), 1)
        self.assertEqual(broken_at(TRAIN, (rungs[1], rungs[0])), 0)
        self.assertEqual(broken_at(TRAIN, rungs[1:]), 0)
        self.assertEqual(broken_at(TRAIN, ()), 0)
        self.assertEqual(broken_at(TRAIN, []), 0)

    def test_of_another_train(self):
        self.assertEqual(broken_at((FAST, SLOW), ladder((SLOW, FAST))), 0)
        self.assertIs(is_ladder((FAST, SLOW), ladder((SLOW, FAST))), False)

    def test_unfit(self):
        for train in ((), ((1, 0),), ((0, 1), (0,)), None, (0, 1)):
            self.assertRaises(Unfit, broken_at, train, ())
            self.assertRaises(Unfit, is_ladder, train, ())
            for function in (first_rung, ladder, bound_of):
                self.assertRaises(Unfit, function, train)


if __name__ == "__main__":
    unittest.main()
