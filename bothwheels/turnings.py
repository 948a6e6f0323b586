"""Turnings: where wheels come back, and by how much of a round they turn a beat."""

from bothwheels.errors import NoPlace
from bothwheels.kinds import as_number, as_number_from, is_just
from bothwheels.wheels import as_wheel, led_places, led_to, power


def refuse_no_place(wheel, place):
    """NoPlace(place) if the number place is no place of wheel."""
    if place < 0 or place >= len(wheel):
        raise NoPlace(place)


def _led_to_place(wheel, place):
    """The place, rounds apart, to which wheel leads place."""
    return led_to(wheel, place) % len(wheel)


def _back_to(wheel, place):
    """The pair of the beats and the rounds with which place, an own one, first comes back."""
    at = led_to(wheel, place)
    beats = 1
    while (at - place) % len(wheel) != 0:
        at = led_to(wheel, at)
        beats += 1
    return (beats, (at - place) // len(wheel))


def come_back(wheel):
    """The RETURN of wheel."""
    told = as_wheel(wheel)
    place = own_places(told)[0]
    beats, rounds = _back_to(told, place)
    return (place, beats, rounds)


def is_return(wheel, thing):
    """Whether thing is the RETURN of wheel."""
    return is_just(thing, come_back(wheel))


def turning(wheel):
    """The TURNING of wheel."""
    told = as_wheel(wheel)
    place = 0
    # All own places tell the same: any of them will do, and by N beats one is come to.
    for _ in range(len(told)):
        place = _led_to_place(told, place)
    beats, rounds = _back_to(told, place)
    # They have no common divisor.
    return (rounds, beats)


def own_places(wheel):
    """The set of the own places of wheel."""
    told = as_wheel(wheel)
    # By N beats each place has come to an own one, and each own place is led
    # to by an own one: so just these are left.
    return led_places(power(told, len(told)))


def own_step(wheel):
    """The number by which wheel leads its own places."""
    told = as_wheel(wheel)
    above, below = turning(told)
    # They are as many as a multiple of the beats.
    return above * (len(own_places(told)) // below)


def orbit(wheel, place):
    """place, then the others of its orbit, as they are first come to."""
    told = as_wheel(wheel)
    at = as_number(place)
    refuse_no_place(told, at)
    found = {}
    while at not in found:
        found[at] = True
        at = _led_to_place(told, at)
    return tuple(list(found))


def after(wheel, number, beats):
    """The number to which number is led by so many beats."""
    told = as_wheel(wheel)
    start = as_number(number)
    return led_to(power(told, as_number_from(beats, 0)), start)


def beats_to_own(wheel, place):
    """The least number of beats behind which place is an own one."""
    told = as_wheel(wheel)
    at = as_number(place)
    refuse_no_place(told, at)
    own = own_places(told)
    beats = 0
    while at not in own:
        at = _led_to_place(told, at)
        beats += 1
    return beats


def come_together(wheel, one, other):
    """The least number of beats behind which one and other are led to one number, or None."""
    told = as_wheel(wheel)
    first = as_number(one)
    second = as_number(other)
    # By N beats both are at own places, rounds apart, and these never come together.
    for beats in range(len(told) + 1):
        if first == second:
            return beats
        first = led_to(told, first)
        second = led_to(told, second)
    return None
