"""Stairs: the least turnings of two letters with which a word can turn by a fraction."""

from bothwheels.errors import CanNot, TooMany, Unfit
from bothwheels.fractions import as_fraction, as_turns, between, ceiling_of, is_fraction, less, less_than, quotient
from bothwheels.kinds import as_number_from
from bothwheels.rows import bar, best_row, is_bar, is_row, most_of, row_turning
from bothwheels.words import as_word, counts_of, letters_of

MOST_TOGETHER = 8


def _as_word_of_two(value):
    """The WORD of two letters that value is, as a tuple; Unfit() if it is none."""
    told = as_word(value)
    if letters_of(told) != 2:
        raise Unfit()
    return told


def _as_pair(value):
    """The pair of FRACTIONS that value is, as tuples; Unfit() if it is none."""
    told = as_turns(value)
    if len(told) != 2:
        raise Unfit()
    return told


def _refuse_above(one, other):
    """TooMany() if both numbers are together above a limit."""
    if one + other > MOST_TOGETHER:
        raise TooMany()


def _can(word, turns, fraction):
    """Whether word can turn by fraction with turns; all is known to be as it should."""
    return not less_than(most_of(word, turns), fraction)


def can(word, turns, fraction):
    """Whether MOST of word and turns is at least fraction."""
    told = _as_word_of_two(word)
    both = _as_pair(turns)
    goal = as_fraction(fraction)
    _refuse_above(both[0][1], both[1][1])
    return _can(told, both, goal)


def most_bottoms(word, fraction):
    """The pair of the greatest bottoms that the FRACTIONS of CORNERS may have."""
    told = _as_word_of_two(word)
    _, bottom = as_fraction(fraction)
    zeros, ones = counts_of(told)
    return (bottom * zeros, bottom * ones)


def _steps_below(low, high, fraction, most):
    """How many times high may be added to low, still below fraction, with a bottom of at most most."""
    gap = fraction[0] * low[1] - low[0] * fraction[1]
    step = high[0] * fraction[1] - fraction[0] * high[1]
    room = (most - low[1]) // high[1]
    return room if step == 0 else min(room, (gap - 1) // step)


def _steps_above(low, high, fraction):
    """How many times low may be added to high, not below fraction."""
    gap = high[0] * fraction[1] - fraction[0] * high[1]
    step = fraction[0] * low[1] - low[0] * fraction[1]
    return gap // step


def _moved(one, other, steps):
    """The FRACTION of the tops and of the bottoms added up, those of other so many times."""
    return (one[0] + steps * other[0], one[1] + steps * other[1])


def just_below(fraction, most):
    """The greatest FRACTION below fraction with a bottom of at most most."""
    goal = as_fraction(fraction)
    limit = as_number_from(most, 1)
    low = (ceiling_of(goal) - 1, 1)
    high = (ceiling_of(goal), 1)
    # low is below goal, high is not, and what lies between them has a bottom of
    # at least both together.
    while low[1] + high[1] <= limit:
        low = _moved(low, high, _steps_below(low, high, goal, limit))
        high = _moved(high, low, _steps_above(low, high, goal))
    return low


def _pair_with(letter, own, turn):
    """The pair of FRACTIONS with own for letter, turn for the other one."""
    return (own, turn) if letter == 0 else (turn, own)


def _least_beside(word, fraction, letter, turn):
    """As least_beside; all is known to be as it should."""
    many = counts_of(word)[letter]
    lacking = less(fraction, most_of(word, _pair_with(letter, (0, 1), turn)))
    # One round more of this letter is as many rounds more as it stands in word.
    whole = ceiling_of(quotient(lacking[0], lacking[1] * many))
    for own in between((whole - 1, 1), (whole, 1), fraction[1] * many)[1:-1]:
        if _can(word, _pair_with(letter, own, turn), fraction):
            return own
    return (whole, 1)


def least_beside(word, fraction, letter, turn):
    """The least FRACTION for letter with which, beside turn of the other one, word can turn by fraction."""
    told = _as_word_of_two(word)
    goal = as_fraction(fraction)
    own = as_number_from(letter, 0)
    if own > 1:
        raise Unfit()
    beside = as_fraction(turn)
    _refuse_above(beside[1], most_bottoms(told, goal)[own])
    return _least_beside(told, goal, own, beside)


def _is_within(turn):
    """Whether turn is from 0 to below 1."""
    return 0 <= turn[0] < turn[1]


def _refuse_great(word, fraction):
    """TooMany() if the bottoms of CORNERS may be above a limit together."""
    first, second = most_bottoms(word, fraction)
    _refuse_above(first, second)


def _below(word, fraction, turns):
    """The two pairs with the next lesser FRACTION for the one letter and for the other one."""
    first, second = turns
    one_most, other_most = most_bottoms(word, fraction)
    return ((just_below(first, one_most), second), (first, just_below(second, other_most)))


def _may_be_corner(word, fraction, turns):
    """Whether turns are from 0 to below 1, with bottoms that CORNERS may have."""
    most_one, most_other = most_bottoms(word, fraction)
    first, second = turns
    return _is_within(first) and _is_within(second) and first[1] <= most_one and second[1] <= most_other


def _is_corner(word, fraction, turns):
    """Whether turns, a pair of FRACTIONS, are a CORNER."""
    if not _may_be_corner(word, fraction, turns) or not _can(word, turns, fraction):
        return False
    # What can be with greater bottoms alone can be with a lesser FRACTION of such a bottom.
    return not any([_can(word, own, fraction) for own in _below(word, fraction, turns)])


def corners(word, fraction):
    """The tuple of the CORNERS, that of the first letter rising."""
    told = _as_word_of_two(word)
    goal = as_fraction(fraction)
    _refuse_great(told, goal)
    found = []
    for first in between((0, 1), (1, 1), most_bottoms(told, goal)[0])[:-1]:
        turns = (first, _least_beside(told, goal, 1, first))
        if _is_corner(told, goal, turns):
            found.append(turns)
    return tuple(found)


def is_corner(word, fraction, thing):
    """Whether thing is a CORNER."""
    told = _as_word_of_two(word)
    goal = as_fraction(fraction)
    _refuse_great(told, goal)
    if not isinstance(thing, tuple) or len(thing) != 2 or not all([is_fraction(own) for own in thing]):
        return False
    return _is_corner(told, goal, thing)


def corner_paper(word, fraction, turns):
    """A PAPER of the CORNER turns; CanNot() if they are none."""
    told = _as_word_of_two(word)
    goal = as_fraction(fraction)
    both = _as_pair(turns)
    _refuse_great(told, goal)
    if not _is_corner(told, goal, both):
        raise CanNot()
    one, other = _below(told, goal, both)
    return (best_row(told, both), bar(told, one, goal), bar(told, other, goal))


def _is_good_row(word, fraction, turns, thing):
    """Whether thing is a ROW of the bottoms of turns on which the tops turn by fraction or more."""
    tops = [top for top, bottom in turns]
    bottoms = [bottom for top, bottom in turns]
    if not is_row(thing) or list(counts_of(thing)) != bottoms:
        return False
    return not less_than(row_turning(word, thing, tops), fraction)


def is_corner_paper(word, fraction, turns, thing):
    """Whether turns are from 0 to below 1 and thing is a PAPER of them."""
    told = _as_word_of_two(word)
    goal = as_fraction(fraction)
    both = _as_pair(turns)
    _refuse_great(told, goal)
    if not _may_be_corner(told, goal, both) or not isinstance(thing, tuple) or len(thing) != 3:
        return False
    row, first, second = thing
    one, other = _below(told, goal, both)
    if not _is_good_row(told, goal, both, row):
        return False
    return is_bar(told, one, goal, first) and is_bar(told, other, goal, second)
