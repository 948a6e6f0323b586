"""Rows of letters, [16]."""

import itertools
import math
import random
import unittest
from fractions import Fraction

from bothwheels.errors import CanNot, TooMany, Unfit
from bothwheels.makers import raised
from bothwheels.most import least, most
from bothwheels.rows import (
    bar, best_row, is_bar, is_row, least_of, led_train, many_rows, most_of, row_of, row_turning, rows,
)
from tests.reckoning import drawn_train, pair, slow_return, slow_turning, small_wheels, steady, value
from tests.rowreckoning import (
    all_rows, all_turned, in_word, least_rows, on_rows, slow_led, slow_most_of, slow_row_turning,
)

HALF, THIRD = (1, 2), (1, 3)
WORDS_OF_TWO = ((0, 1), (1, 0), (0, 0, 1), (1, 0, 1), (0, 1, 0, 1), (0, 0, 1, 1), (0, 1, 1, 1, 0, 1, 0, 0))
SMALL_TURNS = tuple([pair(Fraction(above, below)) for below in (1, 2, 3) for above in range(-below, below + 1)])
SMALL_TURNS = tuple(sorted(set(SMALL_TURNS)))


def small_counts(letters, most_places):
    """Tuples of so many numbers from 1, together at most so many."""
    return [
        counts for counts in itertools.product(range(1, most_places + 1), repeat=letters) if sum(counts) <= most_places
    ]


def many_apart(counts):
    """How many ROWS there are, turned ones apart."""
    many = math.factorial(sum(counts))
    for count in counts:
        many //= math.factorial(count)
    return many


def returned(wheel):
    """The places of the orbit of the return, walked."""
    place, beats, rounds = slow_return(wheel)
    at, found = place, set()
    for beat in range(beats):
        at = wheel[at] % len(wheel)
        found.add(at)
    return found


class TheRows(unittest.TestCase):
    def test_all_small(self):
        for letters, places in ((1, 8), (2, 8), (3, 7), (4, 6), (5, 5)):
            for counts in small_counts(letters, places):
                if many_apart(counts) > 600:
                    continue
                self.assertEqual(rows(counts), list(least_rows(counts)), counts)
                self.assertEqual(many_rows(counts), len(least_rows(counts)), counts)

    def test_each_is_there_once_up_to_a_turn(self):
        for counts in ((2, 2), (4, 4), (3, 2, 1), (2, 2, 2), (5, 3), (1, 1, 1, 1)):
            found = [own for row in rows(counts) for own in set(all_turned(row))]
            self.assertEqual(sorted(found), list(all_rows(counts)))

    def test_many_rows_counted_one_by_one(self):
        for counts in ((4, 4), (6, 2), (5, 5), (3, 3, 2), (2, 2, 2, 2), (3, 3, 3), (4, 2, 2), (1, 2, 3, 2), (9,), (1, 8)):
            self.assertEqual(many_rows(counts), len(least_rows(counts)))

    def test_many_rows_of_two_letters(self):
        # The places of the letter 1, chosen and turned, without telling any row out.
        for zeros, ones in ((12, 4), (10, 6), (8, 8), (15, 3), (12, 12), (21, 3)):
            ring = zeros + ones
            if math.comb(ring, ones) > 20000:
                continue
            seen = set()
            for chosen in itertools.combinations(range(ring), ones):
                seen.add(min([tuple(sorted([(at + by) % ring for at in chosen])) for by in range(ring)]))
            self.assertEqual(many_rows((zeros, ones)), len(seen))

    def test_many_rows_beyond_the_limit(self):
        self.assertEqual(many_rows((12, 12)), 112720)
        self.assertEqual(many_rows((1,) * 12), math.factorial(11))
        self.assertEqual(many_rows((23, 1)), 1)
        self.assertEqual(many_rows((13, 11)), math.comb(24, 11) // 24)
        self.assertEqual(many_rows((6, 6, 6)), 953056)

    def test_of_one_letter(self):
        for count in (1, 2, 7, 24):
            self.assertEqual(rows((count,)), [(0,) * count])
            self.assertEqual(many_rows((count,)), 1)

    def test_just_at_600_and_just_above(self):
        for counts in ((1, 1, 23), (23, 1, 1), (1, 23, 1)):
            self.assertEqual(many_apart(counts), 600)
            told = rows(counts)
            self.assertEqual((len(told), many_rows(counts)), (24, 24))
            self.assertEqual(told, sorted(set([min(all_turned(row)) for row in told])))
        self.assertEqual(many_apart((1, 599)), 600)
        self.assertEqual(rows((1, 599)), [(0,) + (1,) * 599])
        # Of up to 24 letters together the nearest are 560 and 630.
        for counts in ((3, 3, 2), (13, 3)):
            self.assertEqual(many_apart(counts), 560)
            self.assertEqual(len(rows(counts)), many_rows(counts))
        self.assertEqual([many_apart(counts) for counts in ((4, 4, 1), (2, 2, 2, 1))], [630, 630])
        for counts in ((2, 2, 2, 1), (1, 600), (600, 1), (4, 4, 1), (1, 1, 24), (7, 6), (3, 3, 3), (1,) * 6, (12, 12)):
            self.assertGreater(many_apart(counts), 600)
            self.assertRaises(TooMany, rows, counts)
        self.assertEqual(many_apart((16, 3)), 969)
        self.assertRaises(TooMany, rows, (16, 3))
        self.assertEqual((many_apart((2, 33)), len(rows((2, 33)))), (595, 17))

    def test_unfit(self):
        for wrong in ((), (0,), (1, 0), (-1, 2), (True,), (1, None), None, 3, "12", (1.0,), ((1,),)):
            self.assertRaises(Unfit, rows, wrong)
            self.assertRaises(Unfit, many_rows, wrong)
        self.assertRaises(Unfit, rows, (30, 30, 0))

    def test_is_row(self):
        for row in ((0,), (0, 1), (1, 0, 2), (2, 2, 1, 0), (0,) * 24):
            self.assertIs(is_row(row), True)
            self.assertIs(is_row(list(row)), False)
        for row in ((), (1,), (0, 2), (0, 0, 3, 1), (-1, 0), (0, True), None, 0, "0"):
            self.assertIs(is_row(row), False)


class LedOnRows(unittest.TestCase):
    def drawn(self, seed, many=150):
        """Drawn ROWS with numbers, below 0 too."""
        draw = random.Random(seed)
        for k in range(many):
            letters = draw.randrange(1, 6)
            row = list(range(letters)) + [draw.randrange(letters) for own in range(draw.randrange(20))]
            draw.shuffle(row)
            yield tuple(row), tuple([draw.choice((0, 1, -1, draw.randrange(-30, 30))) for own in range(letters)])

    def test_led_train(self):
        for row, numbers in self.drawn(311):
            train = led_train(row, numbers)
            self.assertEqual(train, slow_led(row, numbers))
            for letter, wheel in enumerate(train):
                self.assertEqual(slow_turning(wheel), Fraction(numbers[letter], row.count(letter)))

    def test_all_small(self):
        for counts in small_counts(2, 5):
            for row in all_rows(counts):
                for numbers in itertools.product((-1, 0, 2), repeat=2):
                    self.assertEqual(led_train(row, numbers), slow_led(row, numbers))

    def test_row_turning(self):
        draw = random.Random(312)
        for row, numbers in self.drawn(313, 100):
            word = list(range(len(numbers))) + [draw.randrange(len(numbers)) for k in range(3)]
            draw.shuffle(word)
            word = tuple(word)
            self.assertEqual(row_turning(word, row, numbers), pair(slow_row_turning(word, row, numbers)))
            self.assertEqual(row_turning(word, all_turned(row)[-1], numbers), row_turning(word, row, numbers))

    def test_as_many_letters(self):
        for row, numbers in (((0, 1), (1,)), ((0, 1), (1, 1, 1)), ((0,), (1, 1)), ((0, 1, 2), (0, 0))):
            self.assertRaises(Unfit, led_train, row, numbers)
            self.assertRaises(Unfit, row_turning, (0, 1), row, numbers)
            self.assertRaises(Unfit, row_turning, row, row, numbers)
        self.assertRaises(Unfit, row_turning, (0,), (0, 1), (1, 1))
        self.assertRaises(Unfit, row_turning, (0, 1, 2), (0, 1), (1, 1))


class RowsOfTrains(unittest.TestCase):
    def slow_row_of(self, train):
        kept = [returned(wheel) for wheel in train]
        row = tuple([letter for place in range(len(train[0])) for letter in range(len(train)) if place in kept[letter]])
        return min(all_turned(row))

    def test_row_of(self):
        draw = random.Random(314)
        for k in range(200):
            train = drawn_train(draw, draw.randrange(1, 25), draw.randrange(1, 6))
            self.assertEqual(row_of(train), self.slow_row_of(train))

    def test_all_small(self):
        for places in (1, 2, 3):
            for train in itertools.product(small_wheels(places, 0, places - 1), repeat=2):
                self.assertEqual(row_of(train), self.slow_row_of(train))

    def test_several_letters_at_one_place(self):
        self.assertEqual(row_of((steady(2, 1), steady(2, 1), steady(2, 0))), (0, 1, 0, 1, 2))
        self.assertEqual(row_of((steady(2, 0), steady(2, 1))), (0, 1, 1))
        self.assertEqual(row_of(((5,), (-3,), (0,))), (0, 1, 2))
        self.assertEqual(row_of((steady(4, 0),) * 3), (0, 1, 2))

    def test_led_on_it_none_turns_by_less(self):
        draw = random.Random(315)
        for k in range(150):
            letters = draw.randrange(1, 4)
            train = drawn_train(draw, draw.randrange(1, 13), letters, 20)
            tops = [slow_turning(wheel).numerator for wheel in train]
            for own in range(3):
                word = list(range(letters)) + [draw.randrange(letters) for k in range(draw.randrange(4))]
                draw.shuffle(word)
                turned = slow_turning(in_word(train, tuple(word)))
                self.assertLessEqual(turned, value(row_turning(tuple(word), row_of(train), tops)), (train, word))


def small_triples(step):
    """Triples of some small FRACTIONS with at most 600 ROWS, those with fewer than 200 first."""
    found = [
        turns for turns in itertools.product(SMALL_TURNS[::step], repeat=3)
        if many_apart([below for above, below in turns]) <= 200
    ]
    return found + [((1, 2), (2, 3), (-1, 3))]


def cases():
    """Words of two letters with small TURNS; words of three, of one."""
    found = [(word, turns) for word in WORDS_OF_TWO for turns in itertools.product(SMALL_TURNS[::2], repeat=2)]
    found += [((0, 1, 2), turns) for turns in small_triples(4)]
    found += [((0, 2, 1, 0), (HALF, (0, 1), (-2, 3))), ((0,), ((2, 3),)), ((0,) * 8, ((-3, 4),))]
    return found


class TheMostInAWord(unittest.TestCase):
    def test_most_of(self):
        for word, turns in cases():
            self.assertEqual(most_of(word, turns), pair(slow_most_of(word, turns)), (word, turns))

    def test_least_of(self):
        for word, turns in cases()[::3]:
            contrary = tuple([(-above, below) for above, below in turns])
            self.assertEqual(least_of(word, turns), pair(-slow_most_of(word, contrary)))

    def test_best_row(self):
        for word, turns in cases():
            tops = tuple([above for above, below in turns])
            counts = tuple([below for above, below in turns])
            good = [row for row in all_rows(counts) if slow_row_turning(word, row, tops) == slow_most_of(word, turns)]
            self.assertEqual(best_row(word, turns), min(good))
            train = led_train(best_row(word, turns), tops)
            self.assertEqual(slow_turning(in_word(train, word)), value(most_of(word, turns)))
            self.assertEqual([slow_turning(own) for own in train], [value(own) for own in turns])

    def test_greater_bottoms(self):
        for word, turns in (((0, 1), ((3, 4), (2, 5))), ((0, 0, 1), ((1, 5), (-3, 4))), ((0, 1, 0, 1), ((1, 4), (3, 4)))):
            self.assertEqual(most_of(word, turns), pair(slow_most_of(word, turns)))
            self.assertLessEqual(most_of(word, turns)[1], min([below for above, below in turns]))
        self.assertEqual(most_of((0, 1), ((99, 100), (0, 1))), most(((99, 100), (0, 1))))

    def test_each_letter_once(self):
        for turns in itertools.product(SMALL_TURNS, repeat=2):
            self.assertEqual(most_of((0, 1), turns), most(turns))
            self.assertEqual(most_of((1, 0), turns), most(turns))
        for turns in small_triples(3):
            self.assertEqual(most_of((0, 1, 2), turns), most(turns))
            self.assertEqual(most_of((2, 1, 0), turns), most(turns))

    def test_the_bottom_is_not_above_those_of_turns(self):
        for word, turns in cases():
            self.assertLessEqual(most_of(word, turns)[1], min([below for above, below in turns]))

    def test_it_grows_or_stays(self):
        for word in WORDS_OF_TWO[:5]:
            for beside in SMALL_TURNS[::3]:
                told = [value(most_of(word, (own, beside))) for own in sorted(SMALL_TURNS, key=value)]
                self.assertEqual(told, sorted(told))
                told = [value(least_of(word, (beside, own))) for own in sorted(SMALL_TURNS, key=value)]
                self.assertEqual(told, sorted(told))

    def test_one_more_round_of_one_letter(self):
        for word in WORDS_OF_TWO:
            for one, other in itertools.product(SMALL_TURNS[::3], repeat=2):
                more = ((one[0] + one[1], one[1]), other)
                self.assertEqual(value(most_of(word, more)), value(most_of(word, (one, other))) + word.count(0))

    def test_no_train_turns_by_more(self):
        draw = random.Random(316)
        for k in range(200):
            letters = draw.randrange(1, 4)
            train = drawn_train(draw, draw.randrange(1, 7), letters, 8)
            turns = tuple([pair(slow_turning(wheel)) for wheel in train])
            if many_apart([below for above, below in turns]) > 600:
                continue
            word = list(range(letters)) + [draw.randrange(letters) for k in range(draw.randrange(4))]
            draw.shuffle(word)
            turned = slow_turning(in_word(train, tuple(word)))
            self.assertLessEqual(turned, value(most_of(tuple(word), turns)))
            self.assertGreaterEqual(turned, value(least_of(tuple(word), turns)))

    def test_no_small_train_turns_by_more(self):
        for places in (1, 2, 3):
            for train in itertools.product(small_wheels(places, 0, places - 1), repeat=2):
                turns = tuple([pair(slow_turning(wheel)) for wheel in train])
                for word in ((0, 1), (0, 0, 1), (0, 1, 0, 1)):
                    self.assertLessEqual(slow_turning(in_word(train, word)), slow_most_of(word, turns))

    def test_nor_one_whose_wheels_turn_by_less(self):
        # A WHEEL that turns by less may be raised; what is seen of the word grows with it.
        wheel, goal = (0, 2, 2), HALF
        other, many = raised(wheel, goal)
        for word in WORDS_OF_TWO[:4]:
            turned = slow_turning(in_word((wheel, (1, 1, 3)), word))
            self.assertLessEqual(turned, value(most_of(word, (HALF, (0, 1)))))
            self.assertLessEqual(value(most_of(word, ((0, 1), (0, 1)))), value(most_of(word, (HALF, (0, 1)))))

    def test_begun_elsewhere_and_told_several_times(self):
        for word in WORDS_OF_TWO:
            for turns in itertools.product(SMALL_TURNS[::4], repeat=2):
                told = most_of(word, turns)
                self.assertEqual([most_of(own, turns) for own in all_turned(word)], [told] * len(word))
                self.assertEqual(value(most_of(word * 2, turns)), 2 * value(told))


class TheLimit(unittest.TestCase):
    AT = ((0, 1, 2), ((1, 23), (0, 1), (0, 1)))
    ABOVE = (((0, 1), ((1, 600), (0, 1))), ((0, 1), ((1, 7), (1, 6))), ((0, 1, 2), ((1, 4), (1, 4), (0, 1))))

    def test_just_at_it(self):
        word, turns = self.AT
        self.assertEqual(most_of(word, turns), (2, 1))
        self.assertEqual(len(bar(word, turns, (3, 1))), 24)
        self.assertIs(is_bar(word, turns, (3, 1), bar(word, turns, (3, 1))), True)
        self.assertEqual(best_row(word, turns)[0], 0)
        self.assertEqual((most_of(word, turns), least_of(word, turns)), (most(turns), least(turns)))
        self.assertEqual(most_of((0, 1), ((1, 599), (0, 1))), most(((1, 599), (0, 1))))

    def test_just_above_it(self):
        for word, turns in self.ABOVE:
            for function in (most_of, best_row, least_of):
                self.assertRaises(TooMany, function, word, turns)
            for goal in ((-5, 1), (100, 1)):
                self.assertRaises(TooMany, bar, word, turns, goal)
                for thing in (None, (), ((0, 1), (0, 1, 1))):
                    self.assertRaises(TooMany, is_bar, word, turns, goal, thing)

    def test_unfit_is_ahead_of_it(self):
        for word, turns in self.ABOVE:
            for wrong_word, wrong_turns in (
                (word + (3,), turns), (word + (9,), turns), (word, turns + ((0, 1),)), (word, turns[1:]), ((), turns), (word, ()),
                (word, turns[1:] + ((2, 4),)), (word, turns[1:] + (None,)), (None, turns), (word, None),
            ):
                for function in (most_of, best_row, least_of):
                    self.assertRaises(Unfit, function, wrong_word, wrong_turns)
                self.assertRaises(Unfit, bar, wrong_word, wrong_turns, (1, 1))
                self.assertRaises(Unfit, is_bar, wrong_word, wrong_turns, (1, 1), None)
            for goal in ((2, 4), None, (1, 0), 1, (True, 1)):
                self.assertRaises(Unfit, bar, word, turns, goal)
                self.assertRaises(Unfit, is_bar, word, turns, goal, None)


class Bars(unittest.TestCase):
    def test_there_is_one_exactly_if_the_most_is_below(self):
        for word, turns in cases()[::2]:
            told = slow_most_of(word, turns)
            for goal in (told, told - Fraction(1, 7), told - 3):
                self.assertRaises(CanNot, bar, word, turns, pair(goal))
                self.assertIs(is_bar(word, turns, pair(goal), on_rows(word, turns)), False)
                self.assertIs(is_bar(word, turns, pair(goal), ()), False)
            for goal in (told + Fraction(1, 10 ** 4), told + 1, told + 10 ** 6):
                self.assertEqual(bar(word, turns, pair(goal)), on_rows(word, turns))
                self.assertIs(is_bar(word, turns, pair(goal), on_rows(word, turns)), True)

    def test_bent(self):
        for word, turns in cases()[::7]:
            goal = pair(slow_most_of(word, turns) + 1)
            told = bar(word, turns, goal)
            row, (place, beats, rounds) = told[-1]
            for last in (
                (row, (place, beats, rounds + 1)), (row, (place + 1, beats, rounds)), (row, (place, 2 * beats, 2 * rounds)),
                (row + (0,), (place, beats, rounds)), (row, (place, beats)), (row, (rounds, beats)), row, None, (list(row), (place, beats, rounds)),
            ):
                self.assertIs(is_bar(word, turns, goal, told[:-1] + (last,)), False)
            self.assertIs(is_bar(word, turns, goal, told[:-1]), False)
            self.assertIs(is_bar(word, turns, goal, told + told[-1:]), False)
            self.assertIs(is_bar(word, turns, goal, list(told)), False)
            if len(told) > 1:
                self.assertIs(is_bar(word, turns, goal, told[::-1]), False)

    def test_rows_turned_are_none(self):
        told = bar((0, 1), (HALF, HALF), (2, 1))
        self.assertEqual([row for row, back in told], [(0, 0, 1, 1), (0, 1, 0, 1)])
        for row in ((0, 1, 1, 0), (1, 1, 0, 0)):
            self.assertIs(is_bar((0, 1), (HALF, HALF), (2, 1), ((row, told[0][1]), told[1])), False)


if __name__ == "__main__":
    unittest.main()
