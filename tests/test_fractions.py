"""Fractions, [5]."""

import math
import random
import unittest
from fractions import Fraction

from bothwheels.errors import TooMany, Unfit
from bothwheels.fractions import (
    added, between, ceiling_of, ceiling_times, common_bottom, compared, floor_of, floor_times, fraction, is_fraction,
    least_bottom_between, less, less_than, negative, simplest, times,
)


def pair(worth):
    """The pair of one of Python's fractions."""
    return (worth.numerator, worth.denominator)


def small(most, bottom):
    """All FRACTIONS by size up to most with bottoms up to bottom, ascending."""
    told = {Fraction(above, below) for below in range(1, bottom + 1) for above in range(-most * below, most * below + 1)}
    return [pair(own) for own in sorted(told)]


def drawn(draw, top, bottom):
    """A FRACTION with numbers to these bounds."""
    return pair(Fraction(draw.randrange(-top, top + 1), draw.randrange(1, bottom + 1)))


def slow_simplest(one, other):
    """By its words: bottom by bottom, then the nearest to 0."""
    low, high = Fraction(*one), Fraction(*other)
    below = 1
    while math.ceil(low * below) > math.floor(high * below):
        below += 1
    first, last = math.ceil(low * below), math.floor(high * below)
    above = 0 if first <= 0 <= last else first if first > 0 else last
    return (above, below)


def slow_least_bottom(one, other):
    """By its words: bottom by bottom."""
    low, high = Fraction(*one), Fraction(*other)
    below = 1
    while Fraction(math.floor(low * below) + 1, below) >= high:
        below += 1
    return below


def slow_between(one, other, most):
    """By its words: all of them, then sorted by value."""
    low, high = Fraction(*one), Fraction(*other)
    told = {
        Fraction(above, below)
        for below in range(1, most + 1)
        for above in range(math.floor(low * below), math.ceil(high * below) + 1)
    }
    return [pair(own) for own in sorted(told) if low <= own <= high]


def many_between(one, other, most):
    """The sum of which TooMany() tells."""
    low, high = Fraction(*one), Fraction(*other)
    return sum([math.floor(high * below) - math.ceil(low * below) + 1 for below in range(1, most + 1)])


class Quotients(unittest.TestCase):
    def test_is_fraction(self):
        for above in range(-12, 13):
            for below in range(-12, 13):
                told = below >= 1 and pair(Fraction(above, below)) == (above, below)
                self.assertIs(is_fraction((above, below)), told, (above, below))

    def test_fraction(self):
        for above in range(-40, 41):
            for below in range(-40, 41):
                if below == 0:
                    self.assertRaises(Unfit, fraction, above, below)
                else:
                    self.assertEqual(fraction(above, below), pair(Fraction(above, below)))

    def test_each_quotient_is_one_fraction(self):
        draw = random.Random(51)
        for k in range(500):
            above, below = draw.randrange(-10 ** 6, 10 ** 6 + 1), draw.randrange(1, 10 ** 4 + 1)
            told = fraction(above, below)
            self.assertTrue(is_fraction(told))
            for factor in (1, -1, 7, -12, 10 ** 20):
                self.assertEqual(fraction(above * factor, below * factor), told)

    def test_below_0_is_unfit(self):
        for above in (0, 1, -1, 10 ** 9):
            self.assertRaises(Unfit, fraction, above, 0)


class Sums(unittest.TestCase):
    def check(self, one, other):
        a, b = Fraction(*one), Fraction(*other)
        self.assertEqual(added(one, other), pair(a + b))
        self.assertEqual(less(one, other), pair(a - b))
        self.assertEqual(compared(one, other), (a > b) - (a < b))
        self.assertIs(less_than(one, other), a < b)

    def test_small(self):
        told = small(2, 6)
        for one in told:
            for other in told:
                self.check(one, other)

    def test_drawn(self):
        draw = random.Random(52)
        for k in range(1500):
            self.check(drawn(draw, 10 ** 6, 10 ** 4), drawn(draw, 10 ** 6, 10 ** 4))

    def test_somewhat_beyond_the_bounds(self):
        draw = random.Random(53)
        for k in range(200):
            self.check(drawn(draw, 10 ** 9, 10 ** 6), drawn(draw, 10 ** 30, 10 ** 25))

    def test_near_ones(self):
        for below in (2, 9999, 10 ** 4, 10 ** 9):
            self.check((1, below), (1, below + 1))
            self.check((-1, below), (-1, below + 1))
            self.check((below - 1, below), (below, below + 1))
            self.check((below, below + 1), (below, below + 1))

    def test_they_stay_small(self):
        draw = random.Random(54)
        for k in range(500):
            one, other = drawn(draw, 300, 200), drawn(draw, 10 ** 6, 50)
            most = 2 * max(1, *[abs(own) for own in one]) * max(1, *[abs(own) for own in other])
            for told in (added(one, other), less(one, other)):
                self.assertLessEqual(max([abs(own) for own in told]), most)

    def test_compared_is_a_number_and_less_than_a_bool(self):
        self.assertEqual([compared((1, 2), (1, 3)), compared((1, 3), (1, 2)), compared((1, 2), (1, 2))], [1, -1, 0])
        self.assertIs(less_than((1, 3), (1, 2)), True)
        self.assertIs(less_than((1, 2), (1, 3)), False)
        self.assertIs(less_than((1, 2), (1, 2)), False)

    def test_negative(self):
        for one in small(3, 7):
            self.assertEqual(negative(one), pair(-Fraction(*one)))
            self.assertEqual(added(one, negative(one)), (0, 1))
            self.assertEqual(negative(negative(one)), one)

    def test_times(self):
        for one in small(2, 7):
            for number in range(-14, 15):
                self.assertEqual(times(one, number), pair(Fraction(*one) * number))
        self.assertEqual(times((10 ** 6, 9999), 9999), (10 ** 6, 1))
        self.assertEqual(times((-7, 10 ** 4), 10 ** 6), (-700, 1))


class Rounded(unittest.TestCase):
    def check(self, one, number):
        worth = Fraction(*one)
        self.assertEqual(floor_of(one), math.floor(worth))
        self.assertEqual(ceiling_of(one), math.ceil(worth))
        self.assertEqual(floor_times(one, number), math.floor(worth * number))
        self.assertEqual(ceiling_times(one, number), math.ceil(worth * number))

    def test_small(self):
        for one in small(3, 7):
            for number in range(-9, 10):
                self.check(one, number)

    def test_drawn(self):
        draw = random.Random(55)
        for k in range(500):
            self.check(drawn(draw, 10 ** 6, 10 ** 4), draw.randrange(-10 ** 6, 10 ** 6 + 1))
            self.check(drawn(draw, 10 ** 40, 10 ** 30), draw.randrange(-10 ** 40, 10 ** 40))


class Simplest(unittest.TestCase):
    def test_small(self):
        told = small(2, 6)
        for place, one in enumerate(told):
            for other in told[place:]:
                self.assertEqual(simplest(one, other), slow_simplest(one, other), (one, other))

    def test_above_is_unfit(self):
        told = small(1, 5)
        for place, one in enumerate(told):
            for other in told[:place]:
                self.assertRaises(Unfit, simplest, one, other)

    def test_drawn(self):
        draw = random.Random(56)
        for k in range(400):
            one = drawn(draw, 3000, 2000)
            other = added(one, pair(abs(Fraction(*drawn(draw, 3, 10 ** 4)))))
            self.assertEqual(simplest(one, other), slow_simplest(one, other), (one, other))

    def test_at_the_bounds(self):
        for one, other in (((1, 10 ** 4), (1, 9999)), ((9998, 9999), (9999, 10 ** 4)), ((-1, 9999), (-1, 10 ** 4)),
                           ((10 ** 6, 1), (10 ** 6, 1)), ((-10 ** 6, 1), (10 ** 6, 1)), ((10 ** 6, 9999), (10 ** 6, 9997))):
            self.assertEqual(simplest(one, other), slow_simplest(one, other), (one, other))

    def test_of_one_is_itself(self):
        for one in small(3, 9):
            self.assertEqual(simplest(one, one), one)

    def test_nearest_to_0(self):
        self.assertEqual(simplest((3, 2), (9, 1)), (2, 1))
        self.assertEqual(simplest((-9, 1), (-3, 2)), (-2, 1))
        self.assertEqual(simplest((-9, 1), (0, 1)), (0, 1))
        self.assertEqual(simplest((0, 1), (9, 1)), (0, 1))
        self.assertEqual(simplest((-1, 9), (1, 9)), (0, 1))
        self.assertEqual(simplest((1, 1), (4, 1)), (1, 1))
        self.assertEqual(simplest((-4, 1), (-1, 1)), (-1, 1))

    def test_no_other_one_is_as_told(self):
        draw = random.Random(57)
        for k in range(300):
            one, other = sorted([Fraction(*drawn(draw, 40, 30)) for own in range(2)])
            told = simplest(pair(one), pair(other))
            rest = [Fraction(above, told[1]) for above in range(math.ceil(one * told[1]), math.floor(other * told[1]) + 1)]
            nearest = [own for own in rest if abs(own) <= abs(Fraction(*told))]
            self.assertEqual(nearest, [Fraction(*told)])

    def test_far_beyond_the_bounds(self):
        one, other = (10 ** 60 + 1, 10 ** 60), (10 ** 60 + 3, 10 ** 60)
        told = simplest(one, other)
        self.assertTrue(not less_than(told, one) and not less_than(other, told))
        self.assertEqual(told, (333333333333333333333333333333333333333333333333333333333334 + 1,
                                333333333333333333333333333333333333333333333333333333333334))


class LeastBottom(unittest.TestCase):
    def test_small(self):
        told = small(2, 6)
        for place, one in enumerate(told):
            for other in told[place + 1:]:
                self.assertEqual(least_bottom_between(one, other), slow_least_bottom(one, other), (one, other))

    def test_not_below_is_unfit(self):
        told = small(1, 5)
        for place, one in enumerate(told):
            for other in told[:place + 1]:
                self.assertRaises(Unfit, least_bottom_between, one, other)

    def test_drawn(self):
        draw = random.Random(58)
        for k in range(400):
            one = drawn(draw, 3000, 500)
            other = added(one, fraction(draw.randrange(1, 20), draw.randrange(1, 3000)))
            self.assertEqual(least_bottom_between(one, other), slow_least_bottom(one, other), (one, other))

    def test_neighbours(self):
        told = small(1, 25)
        for one, other in zip(told, told[1:]):
            self.assertEqual(abs(one[0] * other[1] - other[0] * one[1]), 1)
            self.assertEqual(least_bottom_between(one, other), one[1] + other[1])

    def test_drawn_neighbours(self):
        draw = random.Random(59)
        for k in range(200):
            b, d = draw.randrange(1, 10 ** 4), draw.randrange(1, 10 ** 4)
            if math.gcd(b, d) == 1:
                c = pow(b, -1, d) if d > 1 else 0
                a = (b * c - 1) // d
                self.assertEqual(b * c - a * d, 1)
                self.assertEqual(least_bottom_between((a, b), (c, d)), b + d)
                self.assertEqual(least_bottom_between((-c, d), (-a, b)), b + d)

    def test_at_the_bounds(self):
        for one, other in (((1, 10 ** 4), (1, 9999)), ((9998, 9999), (9999, 10 ** 4)), ((-1, 9999), (-1, 10 ** 4)),
                           ((0, 1), (1, 10 ** 4)), ((-10 ** 6, 1), (10 ** 6, 1)), ((10 ** 6, 1), (10 ** 6 + 1, 1))):
            self.assertEqual(least_bottom_between(one, other), slow_least_bottom(one, other), (one, other))


class Between(unittest.TestCase):
    def test_small(self):
        told = small(1, 5)
        for one in told:
            for other in told:
                for most in (1, 2, 3, 7):
                    self.assertEqual(between(one, other, most), slow_between(one, other, most), (one, other, most))

    def test_drawn(self):
        draw = random.Random(60)
        for k in range(60):
            one = drawn(draw, 500, 100)
            other = added(one, fraction(draw.randrange(0, 40), draw.randrange(80, 300)))
            most = draw.randrange(1, 61)
            if many_between(one, other, most) <= 1000:
                self.assertEqual(between(one, other, most), slow_between(one, other, most), (one, other, most))
            else:
                self.assertRaises(TooMany, between, one, other, most)

    def test_ascending_by_value_and_new(self):
        told = between((-1, 1), (1, 1), 20)
        self.assertIs(type(told), list)
        self.assertEqual(told, [pair(own) for own in sorted({Fraction(*own) for own in told})])
        self.assertEqual(told[0], (-1, 1))
        self.assertEqual(told[-1], (1, 1))

    def test_one_above_other(self):
        self.assertEqual(between((1, 2), (1, 3), 60), [])
        self.assertEqual(between((5000, 1), (-5000, 1), 60), [])
        self.assertEqual(between((1, 1), (0, 1), 1), [])

    def test_none_there(self):
        self.assertEqual(between((1, 3), (1, 3), 2), [])
        self.assertEqual(between((1, 3), (1, 3), 3), [(1, 3)])
        self.assertEqual(between((10 ** 4 - 2, 10 ** 4 - 1), (9999, 10 ** 4), 60), [])

    def test_most_bottoms(self):
        self.assertEqual(between((0, 1), (1, 2), 60), slow_between((0, 1), (1, 2), 60))
        self.assertEqual(between((-1, 60), (1, 60), 60), [(-1, 60), (0, 1), (1, 60)])
        self.assertEqual(between((1, 60), (1, 59), 60), [(1, 60), (1, 59)])
        self.assertEqual(between((1, 60), (1, 59), 59), [(1, 59)])
        self.assertEqual(between((1, 99), (1, 98), 99), [(1, 99), (1, 98)])

    def test_too_many_just_above_a_thousand(self):
        self.assertEqual(between((0, 1), (999, 1), 1), [(own, 1) for own in range(1000)])
        self.assertRaises(TooMany, between, (0, 1), (1000, 1), 1)
        self.assertEqual(len(between((-500, 1), (499, 1), 1)), 1000)
        self.assertRaises(TooMany, between, (-500, 1), (500, 1), 1)

    def test_too_many_counts_what_is_not_made_least(self):
        # 334 whole numbers and 667 halves; made least these are 667.
        self.assertEqual(many_between((0, 1), (333, 1), 2), 1001)
        self.assertEqual(len(slow_between((0, 1), (333, 1), 2)), 667)
        self.assertRaises(TooMany, between, (0, 1), (333, 1), 2)
        # 333 whole numbers and 667 halves.
        self.assertEqual(many_between((-1, 2), (665, 2), 2), 1000)
        self.assertEqual(between((-1, 2), (665, 2), 2), slow_between((-1, 2), (665, 2), 2))

    def test_too_many_for_each_most(self):
        full = 0
        for most in range(1, 63):
            low, high = 0, 60001
            while high - low > 1:
                half = (low + high) // 2
                if many_between((0, 1), fraction(half, 60), most) <= 1000:
                    low = half
                else:
                    high = half
            last, beyond = fraction(low, 60), fraction(high, 60)
            with self.subTest(most=most, last=last):
                self.assertEqual(between((0, 1), last, most), slow_between((0, 1), last, most))
                self.assertRaises(TooMany, between, (0, 1), beyond, most)
            full += many_between((0, 1), last, most) == 1000
        self.assertGreater(full, 0)


class CommonBottom(unittest.TestCase):
    def test_none(self):
        self.assertEqual(common_bottom(()), 1)
        self.assertEqual(common_bottom([]), 1)

    def test_listed(self):
        self.assertEqual(common_bottom(((7, 1),)), 1)
        self.assertEqual(common_bottom(((1, 6),)), 6)
        self.assertEqual(common_bottom(((1, 6), (1, 4))), 12)
        self.assertEqual(common_bottom(((1, 2), (1, 3), (1, 4), (-1, 5), (0, 1))), 60)
        self.assertEqual(common_bottom(((1, 10 ** 4), (1, 9999))), 99990000)

    def test_drawn(self):
        draw = random.Random(61)
        for k in range(300):
            told = tuple([drawn(draw, 50, 12) for own in range(draw.randrange(6))])
            bottom = common_bottom(told)
            fits = [n for n in range(1, bottom + 1) if all([n % below == 0 for above, below in told])]
            self.assertEqual(fits, [bottom])


if __name__ == "__main__":
    unittest.main()
