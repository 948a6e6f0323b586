"""Stairs, [19]."""

import itertools
import math
import random
import unittest
from fractions import Fraction

from bothwheels.errors import CanNot, TooMany, Unfit
from bothwheels.rows import is_bar
from bothwheels.stairs import (
    can, corner_paper, corners, is_corner, is_corner_paper, just_below, least_beside, most_bottoms,
)
from tests.reckoning import pair, value
from tests.rowreckoning import all_rows, all_turned, on_rows, slow_most_of, slow_row_turning

STEEP, GOAL, CORNER = (0, 0, 1), (3, 2), ((1, 4), (1, 2))
HALF = (1, 2)

# Words and FRACTIONS for which the bottoms of CORNERS may be together 8 at most.
CASES = (
    ((0, 1), (0, 1)), ((0, 1), (1, 1)), ((0, 1), (2, 1)), ((0, 1), (3, 2)), ((0, 1), (5, 3)), ((0, 1), (4, 3)), ((0, 1), (7, 4)),
    ((0, 1), (-1, 2)), ((0, 1), (1, 4)), ((1, 0), (5, 3)), ((0, 0, 1), (3, 2)), ((0, 0, 1), (5, 2)), ((0, 1, 1), (3, 2)),
    ((0, 1, 1), (2, 1)), ((0, 0, 1, 1), (2, 1)), ((0, 0, 1, 1), (5, 2)), ((0, 1, 0, 1), (5, 2)), ((0, 1, 0, 1), (7, 2)),
    ((1, 0, 0, 1), (3, 1)), ((0, 0, 0, 1), (5, 2)), ((0, 0, 0, 0, 1), (2, 1)), ((0, 1, 1, 0, 1, 1), (4, 1)), ((0, 0, 0, 0, 0, 0, 1), (3, 1)),
    ((0, 1, 0, 1, 0, 1, 0, 1), (6, 1)), ((0, 0, 1), (7, 2)), ((0, 0, 1), (9, 2)),
)


def told_below_1(most):
    """All FRACTIONS from 0 to below 1 with bottoms up to most, as Python's, ascending."""
    return sorted({Fraction(above, below) for below in range(1, most + 1) for above in range(below)})


def slow_below(turned, most):
    """The greatest one below turned with a bottom of at most most, bottom by bottom."""
    return max([Fraction(math.ceil(turned * below) - 1, below) for below in range(1, most + 1)])


def slow_can(word, one, other, goal):
    return slow_most_of(word, (pair(one), pair(other))) >= goal


def slow_beside(word, goal, letter, turned):
    """The least one beside turned: step by step down from where it can be, over all with small bottoms."""
    most = goal.denominator * word.count(letter)
    steps = sorted({Fraction(above, below) for below in range(1, most + 1) for above in range(below)})

    def so(own):
        return slow_can(word, *((own, turned) if letter == 0 else (turned, own)), goal)

    whole = 0
    while not so(Fraction(whole)):
        whole += 1
    while so(Fraction(whole - 1)):
        whole -= 1
    return min([whole - 1 + own for own in steps + [Fraction(1)] if so(whole - 1 + own)])


def walked_corners(word, goal):
    """The CORNERS, by a walk along the stairs: down by one letter, up by the other, from its first step below 1."""
    one_most, other_most = goal.denominator * word.count(0), goal.denominator * word.count(1)
    found = []
    other = slow_below(Fraction(1), other_most)
    while other >= 0:
        one = slow_beside(word, goal, 0, other)
        if one >= 1:
            break
        other = slow_beside(word, goal, 1, one)
        if one >= 0 and other >= 0:
            found.append((pair(one), pair(other)))
        other = slow_below(other, other_most)
    return tuple(found)


class Steps(unittest.TestCase):
    def test_just_below(self):
        draw = random.Random(351)
        for k in range(600):
            turned = Fraction(draw.randrange(-60, 60), draw.randrange(1, 30))
            most = draw.randrange(1, 40)
            self.assertEqual(just_below(pair(turned), most), pair(slow_below(turned, most)), (turned, most))

    def test_below_0_and_at_whole_numbers(self):
        self.assertEqual([just_below((0, 1), most) for most in (1, 2, 3, 100)], [(-1, 1), (-1, 2), (-1, 3), (-1, 100)])
        self.assertEqual([just_below((1, 1), most) for most in (1, 2, 3, 100)], [(0, 1), (1, 2), (2, 3), (99, 100)])
        self.assertEqual([just_below((-2, 1), most) for most in (1, 5)], [(-3, 1), (-11, 5)])
        self.assertEqual([just_below((-1, 3), most) for most in (1, 2, 3, 4, 5)], [(-1, 1), (-1, 2), (-1, 2), (-1, 2), (-2, 5)])

    def test_with_a_greater_bottom_than_most(self):
        self.assertEqual([just_below((1, 10 ** 4), most) for most in (1, 7)], [(0, 1), (0, 1)])
        self.assertEqual(just_below((-1, 10 ** 4), 7), (-1, 7))
        self.assertEqual(just_below((5001, 10 ** 4), 9), (1, 2))

    def test_great(self):
        self.assertEqual(just_below((0, 1), 10 ** 6), (-1, 10 ** 6))
        self.assertEqual(just_below((1, 2), 10 ** 6), (499999, 999999))
        above, below = just_below((1, 10 ** 4), 10 ** 6)
        self.assertEqual(below - above * 10 ** 4, 1)
        self.assertGreater(below + 10 ** 4, 10 ** 6)
        self.assertEqual(just_below((10 ** 6, 1), 1), (10 ** 6 - 1, 1))

    def test_most_from_1(self):
        for most in (0, -1, None, True, "1", 1.0):
            self.assertRaises(Unfit, just_below, HALF, most)

    def test_most_bottoms(self):
        for word, goal in CASES:
            self.assertEqual(most_bottoms(word, goal), (word.count(0) * goal[1], word.count(1) * goal[1]))
        self.assertEqual(most_bottoms((0, 0, 0, 1, 1), (3, 100)), (300, 200))


class CanTurn(unittest.TestCase):
    def test_can(self):
        draw = random.Random(352)
        for word in ((0, 1), (0, 0, 1), (0, 1, 0, 1), (1, 1, 0, 0), (0, 0, 1, 0, 1, 1, 1, 0)):
            for k in range(60):
                one = Fraction(draw.randrange(-4, 8), draw.randrange(1, 5))
                other = Fraction(draw.randrange(-4, 8), draw.randrange(1, 5))
                told = slow_most_of(word, (pair(one), pair(other)))
                for goal in (told, told - Fraction(1, 5), told + Fraction(1, 7), told + 1):
                    self.assertIs(can(word, (pair(one), pair(other)), pair(goal)), told >= goal)

    def test_bottoms_together_just_at_8_and_above(self):
        for turns in (((1, 4), (3, 4)), ((1, 7), (0, 1)), ((-1, 3), (2, 5)), ((2, 1), (6, 7))):
            told = slow_most_of((0, 1), turns)
            self.assertIs(can((0, 1), turns, pair(told)), True)
            self.assertIs(can((0, 1), turns, pair(told + Fraction(1, 100))), False)
        for turns in (((1, 4), (4, 5)), ((1, 8), (0, 1)), ((-1, 3), (1, 6)), ((1, 100), (1, 100))):
            self.assertRaises(TooMany, can, (0, 1), turns, (1, 1))
            self.assertRaises(TooMany, can, STEEP, turns, (-100, 1))

    def test_unfit_is_ahead_of_too_many(self):
        great = ((1, 4), (4, 5))
        for word in ((0,), (0, 0), (0, 1, 2), (1,), (), None, (0, 2), (0, True)):
            self.assertRaises(Unfit, can, word, great, (1, 1))
        for turns in (great[:1], great + ((1, 2),), (), None, (1, 4), ((1, 4), (2, 10)), ((1, 4), None)):
            self.assertRaises(Unfit, can, (0, 1), turns, (1, 1))
        for goal in ((2, 2), None, 1, (1, 0)):
            self.assertRaises(Unfit, can, (0, 1), great, goal)


class LeastBeside(unittest.TestCase):
    def test_least_beside(self):
        for word, goal in CASES[:16]:
            for letter in (0, 1):
                own_most = most_bottoms(word, goal)[letter]
                for turned in (Fraction(0), Fraction(1, 2), Fraction(-2, 3), Fraction(5, 4), Fraction(3)):
                    if turned.denominator + own_most > 8:
                        self.assertRaises(TooMany, least_beside, word, goal, letter, pair(turned))
                        continue
                    told = least_beside(word, goal, letter, pair(turned))
                    self.assertEqual(value(told), slow_beside(word, value(goal), letter, turned), (word, goal, letter, turned))
                    self.assertLessEqual(told[1], own_most)

    def test_none_with_a_greater_bottom_is_less(self):
        for word, goal in (((0, 1), (3, 2)), ((0, 0, 1), (2, 1)), ((0, 1), (1, 1))):
            for turned in (Fraction(0), Fraction(1, 2), Fraction(1, 3)):
                told = value(least_beside(word, goal, 1, pair(turned)))
                for below in range(1, 7):
                    for above in range(-below, 3 * below):
                        if Fraction(above, below) < told:
                            self.assertFalse(slow_can(word, turned, Fraction(above, below), value(goal)))

    def test_listed(self):
        self.assertEqual(least_beside(STEEP, GOAL, 0, HALF), (1, 4))
        self.assertEqual(least_beside(STEEP, GOAL, 1, (1, 4)), HALF)
        self.assertEqual(least_beside(STEEP, GOAL, 1, (0, 1)), (1, 1))
        self.assertEqual(least_beside((0, 1), (10 ** 6, 1), 0, (0, 1)), (10 ** 6 - 1, 1))
        self.assertEqual(least_beside((0, 0, 1), (-10 ** 6, 1), 0, (0, 1)), pair(slow_shifted(10 ** 6)))

    def test_of_the_greatest_bottom(self):
        for goal, turn in (((1, 2), (-1, 2)), ((3, 2), (1, 2)), ((3, 2), (3, 2)), ((7, 2), (1, 2))):
            told = least_beside((0, 0, 0, 1), goal, 0, turn)
            self.assertEqual(value(told), slow_beside((0, 0, 0, 1), value(goal), 0, value(turn)))
            self.assertEqual(told[1], most_bottoms((0, 0, 0, 1), goal)[0])

    def test_just_at_8_and_above(self):
        self.assertEqual(least_beside(STEEP, GOAL, 0, (1, 4)), pair(slow_beside(STEEP, Fraction(3, 2), 0, Fraction(1, 4))))
        self.assertRaises(TooMany, least_beside, STEEP, GOAL, 0, (1, 5))
        self.assertEqual(least_beside(STEEP, GOAL, 1, (1, 6)), pair(slow_beside(STEEP, Fraction(3, 2), 1, Fraction(1, 6))))
        self.assertRaises(TooMany, least_beside, STEEP, GOAL, 1, (1, 7))
        self.assertRaises(TooMany, least_beside, (0, 1), (1, 8), 0, (0, 1))

    def test_letters(self):
        for letter in (2, -1, 3, None, True, False, "0", 0.0, (0,)):
            self.assertRaises(Unfit, least_beside, STEEP, GOAL, letter, HALF)
            self.assertRaises(Unfit, least_beside, STEEP, (1, 100), letter, HALF)
        self.assertRaises(Unfit, least_beside, STEEP, (1, 100), 0, (2, 4))


def slow_shifted(steps):
    """The least one of letter 0 of (0, 0, 1) beside 0 for -steps: found near 0, and so many rounds back."""
    near = slow_beside((0, 0, 1), Fraction(0), 0, Fraction(0))
    return near - steps // 2


class Corners(unittest.TestCase):
    def test_a_walk_along_the_stairs(self):
        for word, goal in CASES:
            self.assertEqual(corners(word, goal), walked_corners(word, value(goal)), (word, goal))

    def test_by_their_words(self):
        # All pairs with bottoms up to 5, greater ones than CORNERS may have among them.
        for word, goal in (((0, 1), (3, 2)), ((0, 1), (1, 1)), ((0, 0, 1), (2, 1)), ((0, 1, 1), (3, 1)), ((0, 1), (2, 1)), ((0, 1), (1, 2))):
            told = told_below_1(5)
            good = [own for own in itertools.product(told, repeat=2) if slow_can(word, *own, value(goal))]

            def is_least(one, other):
                lesser = [Fraction(above, below) for below in range(1, 6) for above in range(-below, below)]
                near = [(own, other) for own in lesser if own < one] + [(one, own) for own in lesser if own < other]
                return not any([slow_can(word, *own, value(goal)) for own in near])

            found = [(pair(one), pair(other)) for one, other in good if is_least(one, other)]
            self.assertEqual(list(corners(word, goal)), found, (word, goal))

    def test_one_rises_as_the_other_falls(self):
        for word, goal in CASES:
            told = corners(word, goal)
            for (one, other), (further, lower) in zip(told, told[1:]):
                self.assertTrue(value(one) < value(further) and value(other) > value(lower))
            for one, other in told:
                self.assertTrue(0 <= value(one) < 1 and 0 <= value(other) < 1)
                self.assertLessEqual(one[1], most_bottoms(word, goal)[0])
                self.assertLessEqual(other[1], most_bottoms(word, goal)[1])

    def test_none_at_all(self):
        self.assertEqual(corners((0, 1), (5, 1)), ())
        self.assertEqual(corners((0, 1), (-3, 1)), ())
        self.assertEqual(corners((0, 1), (1, 1)), (((0, 1), (0, 1)),))

    def test_begun_elsewhere(self):
        for word, goal in CASES:
            for turned in all_turned(word)[1:3]:
                self.assertEqual(corners(turned, goal), corners(word, goal))

    def test_told_several_times(self):
        for word, goal, many in (((0, 1), (3, 2), 2), ((0, 1), (1, 1), 4), ((0, 0, 1), (2, 1), 2), ((0, 1), (5, 4), 1), ((0, 0, 1), (3, 2), 1)):
            times = pair(value(goal) * many)
            if sum(most_bottoms(word * many, times)) <= 8:
                self.assertEqual(corners(word * many, times), corners(word, goal), (word, goal, many))
        self.assertEqual(corners((0, 1) * 2, (3, 1)), corners((0, 1), (3, 2)))

    def test_letters_exchanged(self):
        for word, goal in CASES:
            other = tuple([1 - letter for letter in word])
            self.assertEqual(corners(other, goal), tuple([(b, a) for a, b in corners(word, goal)][::-1]))

    def test_is_corner(self):
        for word, goal in CASES:
            told = corners(word, goal)
            pairs = [(pair(one), pair(other)) for one, other in itertools.product(told_below_1(5), repeat=2)]
            for own in pairs:
                self.assertIs(is_corner(word, goal, own), own in told, (word, goal, own))
            for one, other in told:
                for thing in ((one, (other[0] + other[1], other[1])), ((one[0] - one[1], one[1]), other), [one, other], (list(one), other)):
                    self.assertIs(is_corner(word, goal, thing), False)

    def test_just_at_8_and_above(self):
        self.assertEqual(sum(most_bottoms((0, 1), (7, 4))), 8)
        self.assertEqual(corners((0, 1), (7, 4)), walked_corners((0, 1), Fraction(7, 4)))
        for word, goal in (((0, 1), (1, 5)), ((0, 0, 1), (1, 3)), ((0,) * 8 + (1,), (1, 1)), ((0, 0, 0, 1, 1), (3, 2)), ((0, 1), (1, 10 ** 4))):
            self.assertRaises(TooMany, corners, word, goal)
            for thing in (None, (), ((0, 1), (0, 1))):
                self.assertRaises(TooMany, is_corner, word, goal, thing)
            self.assertRaises(TooMany, corner_paper, word, goal, ((0, 1), (0, 1)))
            self.assertRaises(TooMany, is_corner_paper, word, goal, ((0, 1), (0, 1)), None)

    def test_unfit_is_ahead_of_too_many(self):
        for word, goal in (((0, 0), (1, 9)), ((0, 1, 2), (1, 9)), ((0, 1), (2, 18)), ((0, 1), None), (None, (1, 9)), ((1,), (1, 9))):
            self.assertRaises(Unfit, corners, word, goal)
            self.assertRaises(Unfit, is_corner, word, goal, None)
            self.assertRaises(Unfit, corner_paper, word, goal, CORNER)
            self.assertRaises(Unfit, is_corner_paper, word, goal, CORNER, None)
        for turns in (None, (), CORNER[:1], CORNER + (HALF,), ((2, 8), HALF), HALF):
            self.assertRaises(Unfit, corner_paper, (0, 1), (1, 9), turns)
            self.assertRaises(Unfit, is_corner_paper, (0, 1), (1, 9), turns, None)


def slow_bar(word, turns, goal):
    """The BAR by the tests' own count; None if there is none."""
    return on_rows(word, turns) if slow_most_of(word, turns) < goal else None


class Papers(unittest.TestCase):
    def parts(self, word, goal, turns):
        """The two BARS of a PAPER, by their words."""
        one, other = turns
        one_most, other_most = goal[1] * word.count(0), goal[1] * word.count(1)
        below = (pair(slow_below(value(one), one_most)), other), (one, pair(slow_below(value(other), other_most)))
        return [slow_bar(word, own, value(goal)) for own in below]

    def good_rows(self, word, goal, turns):
        tops = tuple([above for above, below in turns])
        return [
            row for row in all_rows(tuple([below for above, below in turns])) if slow_row_turning(word, row, tops) >= value(goal)
        ]

    def test_each_corner_has_one(self):
        for word, goal in CASES:
            for turns in corners(word, goal):
                told = corner_paper(word, goal, turns)
                self.assertIn(told[0], self.good_rows(word, goal, turns))
                self.assertEqual(list(told[1:]), self.parts(word, goal, turns))
                self.assertIs(is_corner_paper(word, goal, turns, told), True)
                below = just_below(turns[0], most_bottoms(word, goal)[0])
                self.assertIs(is_bar(word, (below, turns[1]), goal, told[1]), True)

    def test_no_other_pair_has_one(self):
        for word, goal in CASES[::2]:
            told = corners(word, goal)
            for turns in itertools.product([pair(own) for own in told_below_1(4)], repeat=2):
                if turns in told:
                    continue
                self.assertRaises(CanNot, corner_paper, word, goal, turns)
                if most_bottoms(word, goal)[0] < turns[0][1] or most_bottoms(word, goal)[1] < turns[1][1]:
                    self.assertIs(is_corner_paper(word, goal, turns, None), False)
                    continue
                one, other = self.parts(word, goal, turns)
                rows = self.good_rows(word, goal, turns)
                self.assertTrue(rows == [] or one is None or other is None)
                for row in all_rows(tuple([below for above, below in turns]))[:3]:
                    self.assertIs(is_corner_paper(word, goal, turns, (row, one, other)), False)
                    self.assertIs(is_corner_paper(word, goal, turns, (row, (), ())), False)

    def test_the_row_however_turned(self):
        for word, goal in CASES:
            for turns in corners(word, goal):
                told = corner_paper(word, goal, turns)
                good = self.good_rows(word, goal, turns)
                for row in all_rows(tuple([below for above, below in turns])):
                    self.assertIs(is_corner_paper(word, goal, turns, (row,) + told[1:]), row in good)
                for row in all_turned(told[0]):
                    self.assertIs(is_corner_paper(word, goal, turns, (row,) + told[1:]), True)

    def test_bent_in_each_part(self):
        for word, goal in CASES[8:]:
            for turns in corners(word, goal):
                row, one, other = corner_paper(word, goal, turns)
                for bent in (
                    (row, one), (row, one, other, ()), (row[:-1], one, other), (row + (0,), one, other), (list(row), one, other),
                    ((0,) * len(row), one, other), (None, one, other), (row, one[:-1], other), (row, one, other[:-1]), (row, one + one, other),
                    (row, one, list(other)), (row, None, other), (row, one, None), [row, one, other], (row, one, other + one[:1]), (), None,
                    (row, tuple([(own, (back[0], back[1], back[2] - 1)) for own, back in one]), other),
                ):
                    self.assertIs(is_corner_paper(word, goal, turns, bent), False, bent)
                if one != other:
                    self.assertIs(is_corner_paper(word, goal, turns, (row, other, one)), False)

    def test_turns_below_0_and_from_1_on(self):
        row, one, other = corner_paper(STEEP, GOAL, CORNER)
        for turns in (((5, 4), HALF), ((1, 4), (3, 2)), ((-3, 4), (5, 2)), ((1, 1), (0, 1)), ((-1, 2), (1, 1))):
            self.assertRaises(CanNot, corner_paper, STEEP, GOAL, turns)
            self.assertIs(is_corner_paper(STEEP, GOAL, turns, (row, one, other)), False)
            self.assertIs(is_corner(STEEP, GOAL, turns), False)
        # These are just as near to the stairs as CORNERS are, but not from 0 to below 1.
        for word, goal, turns in (
            ((0, 1), (2, 1), ((1, 1), (0, 1))), ((0, 1), (2, 1), ((0, 1), (1, 1))), ((0, 1), (2, 1), ((2, 1), (-1, 1))),
            ((0, 1), (1, 1), ((-1, 1), (1, 1))), ((0, 1), (3, 2), ((3, 2), (-1, 2))), ((0, 1), (3, 2), ((-1, 2), (3, 2))),
        ):
            one, other = self.parts(word, goal, turns)
            row = self.good_rows(word, goal, turns)[0]
            self.assertTrue(one is not None and other is not None)
            self.assertNotIn(turns, corners(word, goal))
            self.assertIs(is_corner(word, goal, turns), False)
            self.assertIs(is_corner_paper(word, goal, turns, (row, one, other)), False)
            self.assertRaises(CanNot, corner_paper, word, goal, turns)
        # Greater than what could be told, and not TooMany().
        for turns in (
            ((1, 99), (1, 98)), ((1, 5), HALF), ((10 ** 6, 10 ** 6 + 1), (0, 1)), ((0, 1), (1, 10 ** 4)), ((1, 10 ** 4), (0, 1)),
            ((0, 1), (9999, 10 ** 4)), ((9999, 10 ** 4), (0, 1)),
        ):
            self.assertIs(is_corner(STEEP, GOAL, turns), False)
            self.assertRaises(CanNot, corner_paper, STEEP, GOAL, turns)
            self.assertIs(is_corner_paper(STEEP, GOAL, turns, (row, one, other)), False)


if __name__ == "__main__":
    unittest.main()
