"""Fractions: pairs (above, below) of numbers, made least."""

from math import gcd, lcm

from bothwheels.errors import TooMany, Unfit
from bothwheels.kinds import are_numbers, with_tuples

MOST_BETWEEN = 1000


def is_fraction(thing):
    """Whether thing is a FRACTION."""
    if not isinstance(thing, tuple) or len(thing) != 2 or not are_numbers(thing):
        return False
    above, below = thing
    return below >= 1 and gcd(above, below) == 1


def as_fraction(value):
    """The FRACTION that value is, as a tuple; Unfit() if it is none."""
    told = with_tuples(value, 1)
    if not is_fraction(told):
        raise Unfit()
    return told


def as_fractions(value):
    """The tuple of FRACTIONS that value is; Unfit() if it is none."""
    told = with_tuples(value, 2)
    if not isinstance(told, tuple) or not all([is_fraction(own) for own in told]):
        raise Unfit()
    return told


def is_turns(value):
    """Whether value is TURNS."""
    return isinstance(value, tuple) and value != () and all([is_fraction(own) for own in value])


def as_turns(value):
    """The TURNS that value is, as a tuple; Unfit() if it is none."""
    told = with_tuples(value, 2)
    if not is_turns(told):
        raise Unfit()
    return told


def quotient(above, below):
    """The FRACTION above / below; below is known not to be 0."""
    common = gcd(above, below)
    if below < 0:
        common = -common
    return (above // common, below // common)


def fraction(above, below):
    """The FRACTION above / below; Unfit() if below is 0."""
    if below == 0:
        raise Unfit()
    return quotient(above, below)


def added(one, other):
    """one + other."""
    above, below = as_fraction(one)
    more, parts = as_fraction(other)
    return quotient(above * parts + more * below, below * parts)


def less(one, other):
    """one - other."""
    above, below = as_fraction(one)
    taken, parts = as_fraction(other)
    return quotient(above * parts - taken * below, below * parts)


def negative(one):
    """0 - one."""
    above, below = as_fraction(one)
    return (-above, below)


def times(one, number):
    """one times number."""
    above, below = as_fraction(one)
    return quotient(above * number, below)


def compared(one, other):
    """-1, 0, 1, as one is the lesser, both are equal, one is the greater."""
    above, below = as_fraction(one)
    beyond, parts = as_fraction(other)
    left = above * parts
    right = beyond * below
    if left < right:
        return -1
    if left > right:
        return 1
    return 0


def less_than(one, other):
    """Whether one is the lesser."""
    return compared(one, other) == -1


def greatest_of(fractions):
    """The greatest of a list, not [], of FRACTIONS."""
    best = fractions[0]
    for own in fractions:
        if less_than(best, own):
            best = own
    return best


def least_of_all(fractions):
    """The least of a list, not [], of FRACTIONS."""
    return negative(greatest_of([negative(own) for own in fractions]))


def floor_of(one):
    """The greatest number that is not above one."""
    return floor_times(one, 1)


def ceiling_of(one):
    """The least number that is not below one."""
    return ceiling_times(one, 1)


def floor_times(one, number):
    """The greatest number that is not above one times number."""
    above, below = as_fraction(one)
    return above * number // below


def ceiling_times(one, number):
    """The least number that is not below one times number."""
    above, below = as_fraction(one)
    return -(-above * number // below)


def simplest(one, other):
    """The FRACTION from one to other with the least bottom, of several the nearest to 0."""
    low = as_fraction(one)
    high = as_fraction(other)
    if less_than(high, low):
        raise Unfit()
    if high[0] < 0:
        return negative(_simplest_above_0(negative(high), negative(low)))
    if low[0] <= 0:
        return (0, 1)
    return _simplest_above_0(low, high)


def _simplest_above_0(low, high):
    """The simplest FRACTION from low to high, low above 0."""
    wholes = []
    # Without a whole number between them both are whole and a part, with one
    # whole: the part turned about is as simple as the fraction itself.
    while ceiling_of(low) > floor_of(high):
        whole = floor_of(low)
        wholes.append(whole)
        low, high = _part_turned(high, whole), _part_turned(low, whole)
    above, below = ceiling_of(low), 1
    for whole in reversed(wholes):
        above, below = whole * above + below, above
    return (above, below)


def _part_turned(one, whole):
    """1 / (one - whole), one above whole."""
    above, below = one
    return (below, above - whole * below)


def least_bottom_between(one, other):
    """The least bottom of a FRACTION above one and below other."""
    low = as_fraction(one)
    high = as_fraction(other)
    if not less_than(low, high):
        raise Unfit()
    # (a + c) / (b + d) lies between a / b and c / d, so no bottom above b + d
    # is needed, and what has a lesser one keeps these distances from the ends.
    most = low[1] + high[1]
    first = added(low, (1, low[1] * most))
    last = less(high, (1, high[1] * most))
    return simplest(first, last)[1]


def between(one, other, most):
    """The list, ascending, of all FRACTIONS from one to other with bottoms up to most."""
    low = as_fraction(one)
    high = as_fraction(other)
    spans = [(below, ceiling_times(low, below), floor_times(high, below)) for below in range(1, most + 1)]
    if sum([last - first + 1 for below, first, last in spans]) > MOST_BETWEEN:
        raise TooMany()
    pairs = [(above, below) for below, first, last in spans for above in range(first, last + 1)]
    return _by_value([pair for pair in pairs if is_fraction(pair)])


def _by_value(fractions):
    """The list of these FRACTIONS, ascending by value."""
    bottom = common_bottom(fractions)
    rows = sorted([(above * (bottom // below), above, below) for above, below in fractions])
    return [(above, below) for worth, above, below in rows]


def common_bottom(fractions):
    """The least number from 1 that all their bottoms divide."""
    bottom = 1
    for above, below in as_fractions(fractions):
        bottom = lcm(bottom, below)
    return bottom
