"""Wheels: rings of places that lead each place to a place, in order, and may slip."""

from bothwheels.errors import CanNot, Unfit
from bothwheels.kinds import are_numbers, with_tuples


def is_wheel(thing):
    """Whether thing is a WHEEL."""
    if not isinstance(thing, tuple) or thing == () or not are_numbers(thing):
        return False
    # The place behind the last one is the first one, a round on.
    behind = thing[1:] + (thing[0] + len(thing),)
    return all([number <= further for number, further in zip(thing, behind)])


def is_train(thing):
    """Whether thing is a TRAIN."""
    if not isinstance(thing, tuple) or thing == ():
        return False
    if not all([is_wheel(own) for own in thing]):
        return False
    return all([len(own) == len(thing[0]) for own in thing])


def as_wheel(value):
    """The WHEEL that value is, as a tuple; Unfit() if it is none."""
    told = with_tuples(value, 1)
    if not is_wheel(told):
        raise Unfit()
    return told


def as_train(value):
    """The TRAIN that value is, as a tuple of tuples; Unfit() if it is none."""
    told = with_tuples(value, 2)
    if not is_train(told):
        raise Unfit()
    return told


def led_to(wheel, number):
    """Where wheel leads number; wheel is known to be a WHEEL."""
    places = len(wheel)
    return wheel[number % places] + number // places * places


def _led_twice(wheel, first):
    """The WHEEL by which a place is led where wheel leads it behind first."""
    return tuple([led_to(wheel, number) for number in first])


def leads(wheel, number):
    """Where wheel leads number."""
    return led_to(as_wheel(wheel), number)


def shift(places, steps):
    """The SHIFT by steps, on a ring of so many places."""
    return tuple([place + steps for place in range(places)])


def is_shift(wheel):
    """Whether wheel is a SHIFT."""
    told = as_wheel(wheel)
    return told == shift(len(told), told[0])


def steps_of(wheel):
    """By how much the SHIFT leads; CanNot() if wheel is none."""
    told = as_wheel(wheel)
    if not is_shift(told):
        raise CanNot()
    return told[0]


def put_together(train):
    """The WHEEL of the TRAIN: its last WHEEL leads first."""
    told = as_train(train)
    together = told[-1]
    for wheel in reversed(told[:-1]):
        together = _led_twice(wheel, together)
    return together


def power(wheel, beats):
    """The WHEEL of so many beats of wheel."""
    doubled = as_wheel(wheel)
    together = shift(len(doubled), 0)
    left = beats
    while left > 0:
        if left % 2 == 1:
            together = _led_twice(doubled, together)
        doubled = _led_twice(doubled, doubled)
        left = left // 2
    return together


def finer(wheel, many):
    """The WHEEL on a ring with many places for each place of wheel."""
    told = as_wheel(wheel)
    return tuple([many * told[place // many] for place in range(many * len(told))])


def from_elsewhere(wheel, number):
    """wheel, with the places of its ring told from number on."""
    told = as_wheel(wheel)
    return tuple([led_to(told, place + number) - number for place in range(len(told))])


def is_at_most(wheel, other):
    """Whether wheel leads each place at most as far as other."""
    told = as_wheel(wheel)
    beyond = as_wheel(other)
    if len(told) != len(beyond):
        raise Unfit()
    return all([number <= further for number, further in zip(told, beyond)])


def slips_of(wheel):
    """The set of the places at which wheel slips."""
    told = as_wheel(wheel)
    return tuple([place for place in range(len(told)) if led_to(told, place + 1) == told[place]])


def led_places(wheel):
    """The set of the places to which, rounds apart, some number is led."""
    told = as_wheel(wheel)
    return tuple(sorted({number % len(told) for number in told}))


def led_from(wheel, number):
    """The tuple, ascending, of the numbers that wheel leads to number."""
    told = as_wheel(wheel)
    lacks = [(place, number - to) for place, to in enumerate(told)]
    return tuple(sorted([place + lack for place, lack in lacks if lack % len(told) == 0]))
