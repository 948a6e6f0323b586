"""The most and the least by which trains with told turnings turn."""

from bothwheels.errors import TooMany
from bothwheels.fractions import (
    as_fraction, as_turns, common_bottom, greatest_of, less, less_than, negative, quotient,
)
from bothwheels.kinds import as_number_from

MOST_COMMON_BOTTOM = 2000


def _value(turns, number):
    """The value of turns, known to be TURNS, at number."""
    wholes = sum([above * number // below for above, below in turns])
    return quotient(wholes + len(turns) - 1, number)


def _values(turns):
    """The list of the values at all numbers from 1 to the common bottom; TooMany() beyond a limit."""
    last = common_bottom(turns)
    if last > MOST_COMMON_BOTTOM:
        raise TooMany()
    return [_value(turns, number) for number in range(1, last + 1)]


def value_at(turns, number):
    """The value of turns at number."""
    told = as_turns(turns)
    return _value(told, as_number_from(number, 1))


def most(turns):
    """MOST of turns."""
    return greatest_of(_values(as_turns(turns)))


def least(turns):
    """LEAST of turns."""
    return negative(most([negative(own) for own in as_turns(turns)]))


def bottoms(turns):
    """The set of all numbers up to the common bottom at which the value is MOST."""
    values = _values(as_turns(turns))
    best = greatest_of(values)
    return tuple([number for number, own in enumerate(values, 1) if own == best])


def is_between(turns, fraction):
    """Whether fraction is at least LEAST and at most MOST."""
    told = as_turns(turns)
    goal = as_fraction(fraction)
    return not less_than(goal, least(told)) and not less_than(most(told), goal)


def slack(turns):
    """MOST less the sum of the FRACTIONS."""
    told = as_turns(turns)
    beyond = most(told)
    for own in told:
        beyond = less(beyond, own)
    return beyond
