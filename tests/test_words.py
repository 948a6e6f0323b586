"""Words of trains, [12]."""

import itertools
import random
import unittest
from fractions import Fraction

from bothwheels.errors import NoLetter, Unfit
from bothwheels.wheels import finer, put_together
from bothwheels.words import (
    added_turns, are_turned, beyond, counts_of, is_word, least_turned, letters_of, repeated_word, root_of, stops,
    turned_word, with_wheel, word_turning, word_wheel,
)
from tests.reckoning import (
    drawn_train, drawn_wheel, led_at_once, pair, slow_together, slow_turning, small_wheels, steady, value,
)

TRAIN, WORD = ((1, 1, 3), (0, 2, 3)), (0, 0, 1)


def all_words(most_letters, longest):
    """All WORDS of so many letters at most, so long at most: each of the rows that has all letters up to its greatest."""
    return [
        row for size in range(1, longest + 1) for row in itertools.product(range(most_letters), repeat=size)
        if all([letter in row for letter in range(max(row))])
    ]


WORDS = all_words(3, 5)


def drawn_word(draw, letters, longest=8):
    """A WORD of so many letters."""
    row = list(range(letters)) + [draw.randrange(letters) for k in range(draw.randrange(longest - letters + 1))]
    draw.shuffle(row)
    return tuple(row)


def cases(seed, many=150):
    """Drawn trains with drawn words of as many letters."""
    draw = random.Random(seed)
    found = []
    for k in range(many):
        letters = draw.randrange(1, 6)
        places = draw.randrange(1, 25)
        found.append((drawn_train(draw, places, letters), drawn_word(draw, letters)))
    return found


def spelled(train, word):
    return tuple([train[letter] for letter in word])


def all_turned(word):
    """The list of all that word is begun elsewhere, letter by letter."""
    found = [word]
    for letter in word[1:]:
        found.append(found[-1][1:] + found[-1][:1])
    return found


class Words(unittest.TestCase):
    def test_is_word(self):
        words = set(all_words(5, 5))
        for size in range(1, 6):
            for row in itertools.product(range(-1, 5), repeat=size):
                self.assertIs(is_word(row), row in words, row)

    def test_how_many_letters(self):
        for word in WORDS:
            letters = letters_of(word)
            self.assertEqual(letters, len(set(word)))
            self.assertEqual(counts_of(word), tuple([len([own for own in word if own == letter]) for letter in range(letters)]))

    def test_listed(self):
        self.assertEqual([letters_of(own) for own in ((0,), (0,) * 8, (1, 0), (4, 2, 0, 1, 3))], [1, 1, 2, 5])
        self.assertEqual([counts_of(own) for own in ((0,), (0,) * 8, (1, 0), (2, 0, 2, 1, 2))], [(1,), (8,), (1, 1), (1, 1, 3)])
        self.assertEqual(letters_of(tuple(range(30))), 30)

    def test_turned_word(self):
        for word in WORDS:
            turned = all_turned(word)
            for number in range(-2 * len(word), 2 * len(word) + 1):
                self.assertEqual(turned_word(word, number), turned[number % len(word)], (word, number))
        self.assertEqual(turned_word((0, 1, 2), 10 ** 6), (1, 2, 0))
        self.assertEqual(turned_word((0, 1, 2), -10 ** 6), (2, 0, 1))
        self.assertEqual(turned_word((0,), -1), (0,))

    def test_least_turned(self):
        for word in WORDS:
            self.assertEqual(least_turned(word), min(all_turned(word)))

    def test_are_turned(self):
        words = all_words(2, 4) + [(0, 1, 2), (0, 2, 1), (2, 1, 0), (1, 2, 0)]
        for word in words:
            for other in words:
                self.assertIs(are_turned(word, other), other in all_turned(word), (word, other))

    def test_root_of(self):
        for word in all_words(2, 8) + WORDS:
            many = max([own for own in range(1, len(word) + 1) if word == word[:len(word) // own] * own])
            self.assertEqual(root_of(word), (word[:len(word) // many], many), word)

    def test_root_of_listed(self):
        self.assertEqual(root_of((0,)), ((0,), 1))
        self.assertEqual(root_of((0,) * 8), ((0,), 8))
        self.assertEqual(root_of((0, 1, 0)), ((0, 1, 0), 1))
        self.assertEqual(root_of((0, 0, 1) * 2), ((0, 0, 1), 2))
        self.assertEqual(root_of((1, 0) * 4), ((1, 0), 4))
        self.assertEqual(root_of((0, 1, 0, 0, 1)), ((0, 1, 0, 0, 1), 1))

    def test_repeated_word(self):
        for word in WORDS[::4]:
            for many in (1, 2, 3, 7):
                told = repeated_word(word, many)
                self.assertEqual(told, tuple([letter for k in range(many) for letter in word]))
                self.assertEqual(root_of(told), (root_of(word)[0], many * root_of(word)[1]))
        for many in (0, -1, None, True, "2", 1.0):
            self.assertRaises(Unfit, repeated_word, WORD, many)


class WordsOfTrains(unittest.TestCase):
    def test_word_wheel(self):
        for train, word in cases(181):
            wheel = slow_together(spelled(train, word))
            self.assertEqual(word_wheel(train, word), wheel)
            self.assertEqual(word_turning(train, word), pair(slow_turning(wheel)))

    def test_all_small(self):
        wheels = small_wheels(2, -1, 1)
        for train in itertools.product(wheels, repeat=2):
            for word in ((0, 1), (1, 0), (0, 0, 1), (1, 0, 1, 1)):
                self.assertEqual(word_wheel(train, word), slow_together(spelled(train, word)))

    def test_stops(self):
        draw = random.Random(182)
        for train, word in cases(183):
            for number in (0, -1, draw.randrange(-10 ** 6, 10 ** 6)):
                told = [number]
                for letter in word[::-1]:
                    told.append(led_at_once(train[letter], told[-1]))
                self.assertEqual(stops(train, word, number), tuple(told))
                self.assertEqual(told[-1], led_at_once(word_wheel(train, word), number))

    def test_the_last_letter_leads_first(self):
        train = ((0, 0), (1, 2))
        self.assertEqual(stops(train, (0, 1), 0), (0, 1, 0))
        self.assertEqual(stops(train, (1, 0), 1), (1, 0, 1))
        self.assertEqual(word_wheel(train, (0, 1)), (0, 2))
        self.assertEqual(stops(train, (1, 0), -3), (-3, -4, -3))

    def test_begun_elsewhere_it_turns_the_same(self):
        for train, word in cases(184, 60):
            turned = word_turning(train, word)
            for number in range(-2, len(word)):
                self.assertEqual(word_turning(train, turned_word(word, number)), turned)

    def test_many_times_it_turns_as_much_more(self):
        for train, word in cases(185, 60):
            for many in (1, 2, 5):
                told = word_turning(train, repeated_word(word, many))
                self.assertEqual(value(told), many * value(word_turning(train, word)))

    def test_a_letter_that_leads_further(self):
        draw = random.Random(186)
        for train, word in cases(187, 100):
            letter = draw.randrange(len(train))
            further = tuple([max(own) for own in zip(train[letter], drawn_wheel(draw, len(train[0]), 60))])
            self.assertLessEqual(value(word_turning(train, word)), value(word_turning(with_wheel(train, letter, further), word)))

    def test_added_turns_and_beyond(self):
        for train, word in cases(188):
            total = sum([slow_turning(train[letter]) for letter in word])
            turned = slow_turning(slow_together(spelled(train, word)))
            self.assertEqual(added_turns(train, word), pair(Fraction(total)))
            self.assertEqual(beyond(train, word), pair(turned - total))
            self.assertLessEqual(abs(turned - total), len(word) - 1)

    def test_beyond_below_0(self):
        # 2 to 1, to 0, to -1: a round back, while 2 and 0 stay where they are by one letter alone.
        train = ((-1, 0, 2), (0, 0, 1))
        self.assertEqual(stops(train, WORD, 2), (2, 1, 0, -1))
        self.assertEqual((added_turns(train, WORD), word_turning(train, WORD), beyond(train, WORD)), ((0, 1), (-1, 1), (-1, 1)))
        # SHIFTS alone come to just what they turn.
        train = ((1, 2), (-2, -1))
        self.assertEqual((added_turns(train, (0, 1)), word_turning(train, (0, 1)), beyond(train, (0, 1))), ((-1, 2), (-1, 2), (0, 1)))

    def test_some_turn_by_less_than_their_letters(self):
        lesser = [value(beyond(train, word)) for train, word in cases(189)]
        self.assertLess(min(lesser), 0)
        self.assertGreater(max(lesser), 0)

    def test_of_one_letter(self):
        for places in (1, 2, 3):
            for wheel in small_wheels(places, -2, 2):
                self.assertEqual(word_wheel((wheel,), (0,)), wheel)
                self.assertEqual(word_turning((wheel,), (0, 0, 0)), pair(3 * slow_turning(wheel)))
                self.assertEqual(beyond((wheel,), (0,) * 8), (0, 1))
                self.assertEqual(stops((wheel,), (0,), 1), (1, led_at_once(wheel, 1)))

    def test_of_shifts_alone(self):
        train = (steady(6, 2), steady(6, -5))
        self.assertEqual(word_wheel(train, (0, 1, 0)), steady(6, -1))
        self.assertEqual(word_turning(train, (0, 1, 0)), (-1, 6))
        self.assertEqual(beyond(train, (0, 1, 0)), (0, 1))

    def test_on_finer_rings(self):
        for train, word in cases(190, 20):
            fine = tuple([finer(wheel, 2) for wheel in train])
            self.assertEqual(word_turning(fine, word), word_turning(train, word))

    def test_not_as_many_wheels_as_letters(self):
        for train, word in ((TRAIN, (0,)), (TRAIN, (0, 1, 2)), (TRAIN[:1], WORD), (TRAIN * 2, WORD)):
            for function in (word_wheel, word_turning, added_turns, beyond):
                self.assertRaises(Unfit, function, train, word)
            self.assertRaises(Unfit, stops, train, word, 0)


class WithWheel(unittest.TestCase):
    def test_each_letter(self):
        draw = random.Random(191)
        for k in range(100):
            train = drawn_train(draw, draw.randrange(1, 25), draw.randrange(1, 6))
            wheel = drawn_wheel(draw, len(train[0]), 60)
            for letter in range(len(train)):
                told = list(train)
                told[letter] = wheel
                self.assertEqual(with_wheel(train, letter, wheel), tuple(told))
                self.assertEqual(put_together(told), slow_together(with_wheel(train, letter, wheel)))

    def test_no_letter(self):
        for letter in (2, 3, 10 ** 6, 10 ** 30):
            with self.assertRaises(NoLetter) as caught:
                with_wheel(TRAIN, letter, (1, 2, 3))
            self.assertEqual(vars(caught.exception), {"letter": letter})
        self.assertRaises(NoLetter, with_wheel, TRAIN[:1], 1, (1, 2, 3))

    def test_unfit_is_ahead_of_no_letter(self):
        for letter in (-1, -2, None, True, "2", (2,)):
            self.assertRaises(Unfit, with_wheel, TRAIN, letter, (1, 2, 3))
        for wheel in ((1, 2), (1, 0, 3), (), None, (1, 2, 3, 4), TRAIN):
            for letter in (0, 1, 2, 9, -1):
                self.assertRaises(Unfit, with_wheel, TRAIN, letter, wheel)
        self.assertRaises(Unfit, with_wheel, (), 5, (1, 2, 3))
        self.assertRaises(Unfit, with_wheel, (TRAIN[0], (1, 1)), 5, (1, 2, 3))


if __name__ == "__main__":
    unittest.main()
