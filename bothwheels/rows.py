"""Rows of letters: the finitely many trains among which the most in a word is found."""

from math import comb, gcd

from bothwheels.errors import CanNot, TooMany, Unfit
from bothwheels.fractions import as_fraction, as_turns, greatest_of, less_than, negative
from bothwheels.kinds import are_numbers, is_just, with_tuples
from bothwheels.led import greatest_led
from bothwheels.seen import least_keeping
from bothwheels.turnings import come_back, turning
from bothwheels.wheels import as_train
from bothwheels.words import as_word, is_word, least_turned, letters_of, word_wheel

MOST_ROWS = 600


def is_row(thing):
    """Whether thing is a ROW."""
    return is_word(thing)


def _as_numbers(value):
    """The tuple, not (), of numbers that value is; Unfit() if it is none."""
    told = with_tuples(value, 1)
    if not isinstance(told, tuple) or told == () or not are_numbers(told):
        raise Unfit()
    return told


def _as_counts(value):
    """The tuple, not (), of numbers from 1 that value is; Unfit() if it is none."""
    told = _as_numbers(value)
    if min(told) < 1:
        raise Unfit()
    return told


def _refuse_unlike(word, letters):
    """Unfit() if word, a WORD or a ROW, has not so many letters."""
    if letters_of(word) != letters:
        raise Unfit()


def _many_apart(counts):
    """How many ROWS have each letter as often as counts tell, turned ones counted apart."""
    many = 1
    places = 0
    for count in counts:
        places += count
        many = many * comb(places, count)
    return many


def many_rows(numbers):
    """How many ROWS have each letter as often as numbers tell, turned ones counted once."""
    counts = _as_counts(numbers)
    places = sum(counts)
    same = 0
    for steps in range(places):
        # A ROW that is the same begun so many steps later is one part, told so many times.
        parts = places // gcd(steps, places)
        if all([count % parts == 0 for count in counts]):
            same += _many_apart([count // parts for count in counts])
    return same // places


def _letters_left(left):
    """The letters of which left tells one or more."""
    return [letter for letter, count in enumerate(left) if count > 0]


def _without(left, letter):
    """left, with one less of letter."""
    return left[:letter] + (left[letter] - 1,) + left[letter + 1:]


def _rows_with(counts):
    """The list, ascending, of the ROWS with each letter as often as counts tell; TooMany() beyond a limit."""
    if _many_apart(counts) > MOST_ROWS:
        raise TooMany()
    # The least of turned ones begins with a least letter.
    found = [((0,), (counts[0] - 1,) + tuple(counts[1:]))]
    for _ in range(sum(counts) - 1):
        found = [(row + (letter,), _without(left, letter)) for row, left in found for letter in _letters_left(left)]
    return [row for row, left in found if row == least_turned(row)]


def rows(numbers):
    """The list, ascending, of the ROWS that have each letter as often as numbers tell."""
    return _rows_with(_as_counts(numbers))


def _led_on(row, numbers):
    """The TRAIN led by numbers on row; both are known to be of as many letters."""
    places = [tuple([at for at, own in enumerate(row) if own == letter]) for letter in range(len(numbers))]
    return tuple([greatest_led(own, number, len(row)) for own, number in zip(places, numbers)])


def led_train(row, numbers):
    """The TRAIN led by numbers on row."""
    letters = as_word(row)
    steps = _as_numbers(numbers)
    _refuse_unlike(letters, len(steps))
    return _led_on(letters, steps)


def row_of(train):
    """The ROW of the letters whose RETURNS come to the places, place by place."""
    told = as_train(train)
    kept = [least_keeping(wheel) for wheel in told]
    places = range(len(told[0]))
    return least_turned(tuple([letter for place in places for letter, own in enumerate(kept) if place in own]))


def row_turning(word, row, numbers):
    """The TURNING of the WORD of the TRAIN led by numbers on row."""
    told = as_word(word)
    letters = as_word(row)
    steps = _as_numbers(numbers)
    _refuse_unlike(letters, len(steps))
    return turning(word_wheel(_led_on(letters, steps), told))


def _as_word_and_turns(word, turns):
    """The pair of WORD and TURNS of as many letters that these are; Unfit() if they are none."""
    told = as_word(word)
    fractions = as_turns(turns)
    _refuse_unlike(told, len(fractions))
    return (told, fractions)


def _returns(word, turns):
    """The list of the pairs of a ROW of the bottoms and the RETURN of word on it; TooMany() beyond a limit."""
    tops = [top for top, bottom in turns]
    found = _rows_with([bottom for top, bottom in turns])
    return [(row, come_back(word_wheel(_led_on(row, tops), word))) for row in found]


def _told_by(back):
    """The TURNING that a RETURN tells."""
    _, beats, rounds = back
    return (rounds, beats)


def most_of(word, turns):
    """MOST of word and turns."""
    told, fractions = _as_word_and_turns(word, turns)
    return greatest_of([_told_by(back) for row, back in _returns(told, fractions)])


def best_row(word, turns):
    """The least of the ROWS of the bottoms on which the TRAIN led by the tops turns by MOST."""
    told, fractions = _as_word_and_turns(word, turns)
    found = _returns(told, fractions)
    goal = greatest_of([_told_by(back) for row, back in found])
    return [row for row, back in found if _told_by(back) == goal][0]


def least_of(word, turns):
    """LEAST of word and turns."""
    told, fractions = _as_word_and_turns(word, turns)
    return negative(most_of(told, [negative(own) for own in fractions]))


def _bar_or_none(word, turns, fraction):
    """The BAR of word, turns and fraction, None if there is none."""
    told, fractions = _as_word_and_turns(word, turns)
    goal = as_fraction(fraction)
    found = _returns(told, fractions)
    if not all([less_than(_told_by(back), goal) for row, back in found]):
        return None
    return tuple(found)


def bar(word, turns, fraction):
    """The BAR of word, turns and fraction; CanNot() if there is none."""
    found = _bar_or_none(word, turns, fraction)
    if found is None:
        raise CanNot()
    return found


def is_bar(word, turns, fraction, thing):
    """Whether thing is the BAR of word, turns and fraction."""
    found = _bar_or_none(word, turns, fraction)
    return found is not None and is_just(thing, found)
