"""What all modules ask of the values that they are passed."""


def is_number(value):
    """Whether value is a number; True and False are none."""
    return isinstance(value, int) and not isinstance(value, bool)


def are_numbers(values):
    """Whether all of values are numbers."""
    return all([is_number(value) for value in values])


def with_tuples(value, depth):
    """value with tuples in the place of lists, so many levels deep.

    No deeper: a caller may pass anything, so also a list that holds itself.
    """
    if depth == 0 or not isinstance(value, (list, tuple)):
        return value
    return tuple([with_tuples(own, depth - 1) for own in value])
