"""Places on a ring, told on to all numbers; the package asks for them by these functions."""

from bothwheels.errors import Unfit
from bothwheels.kinds import are_numbers, with_tuples


def is_places(value, ring):
    """Whether value is PLACES on a ring of so many places."""
    if not isinstance(value, tuple) or value == () or not are_numbers(value):
        return False
    if value[0] < 0 or value[-1] >= ring:
        return False
    return all([place < further for place, further in zip(value, value[1:])])


def as_places(value, ring):
    """The PLACES that value is, as a tuple; Unfit() if it is none."""
    told = with_tuples(value, 1)
    if not is_places(told, ring):
        raise Unfit()
    return told


def told_at(places, ring, number):
    """The number-th of places, told on; places are known to be PLACES."""
    return places[number % len(places)] + number // len(places) * ring


def last_up_to(places, ring, number):
    """Which of places, told on, is the last one that is not above number."""
    place = number % ring
    ahead = len([own for own in places if own <= place])
    return number // ring * len(places) + ahead - 1


def first_from(places, ring, number):
    """Which of places, told on, is the first one that is not below number."""
    return last_up_to(places, ring, number - 1) + 1
