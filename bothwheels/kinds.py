"""What all modules ask of the values that they are passed."""

from bothwheels.errors import Unfit


def is_number(value):
    """Whether value is a number; True and False are none."""
    return isinstance(value, int) and not isinstance(value, bool)


def are_numbers(values):
    """Whether all of values are numbers."""
    return all([is_number(value) for value in values])


def as_number(value):
    """The number that value is; Unfit() if it is none."""
    if not is_number(value):
        raise Unfit()
    return value


def as_number_from(value, lowest):
    """The number, not below lowest, that value is; Unfit() if it is none."""
    if not is_number(value) or value < lowest:
        raise Unfit()
    return value


def with_tuples(value, depth):
    """value with tuples in the place of lists, so many levels deep.

    No deeper: a caller may pass anything, so also a list that holds itself.
    """
    if depth == 0 or not isinstance(value, (list, tuple)):
        return value
    return tuple([with_tuples(own, depth - 1) for own in value])


def is_just(thing, told):
    """Whether thing is told, numbers in tuples at any depth.

    Python's own comparison would take True for 1.
    """
    if not isinstance(told, tuple):
        return is_number(thing) and thing == told
    if not isinstance(thing, tuple) or len(thing) != len(told):
        return False
    return all([is_just(own, other) for own, other in zip(thing, told)])
