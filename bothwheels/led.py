"""Led places: wheels that lead some places of their ring by a number."""

from math import comb

from bothwheels.errors import CanNot, TooMany, Unfit
from bothwheels.kinds import as_number, as_number_from
from bothwheels.rings import as_places, first_from, last_up_to, told_at
from bothwheels.wheels import as_wheel, led_to

MOST_WHEELS = 1000


def _as_places_on(places, ring):
    """The PLACES that places are; Unfit() if they are none, or ring is no number from 1."""
    return as_places(places, as_number_from(ring, 1))


def greatest_led(places, number, ring):
    """The greatest WHEEL that leads places by number."""
    told = _as_places_on(places, ring)
    steps = as_number(number)
    return tuple([told_at(told, ring, first_from(told, ring, place) + steps) for place in range(ring)])


def least_led(places, number, ring):
    """The least WHEEL that leads places by number."""
    told = _as_places_on(places, ring)
    steps = as_number(number)
    return tuple([told_at(told, ring, last_up_to(told, ring, place) + steps) for place in range(ring)])


def _leads_by(wheel, places, number):
    """Whether wheel leads places by number; all is known to be as it should."""
    goals = [told_at(places, len(wheel), at + number) for at in range(len(places))]
    return [led_to(wheel, place) for place in places] == goals


def is_led_by(wheel, places, number):
    """Whether wheel leads places by number."""
    told = as_wheel(wheel)
    return _leads_by(told, as_places(places, len(told)), as_number(number))


def led_by(wheel, places):
    """The number by which wheel leads places; CanNot() if there is none."""
    told = as_wheel(wheel)
    some = as_places(places, len(told))
    number = last_up_to(some, len(told), led_to(told, some[0]))
    if not _leads_by(told, some, number):
        raise CanNot()
    return number


def told_on(places, ring, number):
    """What the number-th of places is, told on."""
    return told_at(_as_places_on(places, ring), ring, as_number(number))


def last_at(places, ring, number):
    """The number, among places told on, of the last one that is not above number."""
    return last_up_to(_as_places_on(places, ring), ring, as_number(number))


def first_at_least(places, ring, number):
    """The number, among places told on, of the first one that is not below number."""
    return first_from(_as_places_on(places, ring), ring, as_number(number))


def _spans(places, number, ring):
    """For each place a triple: how far the next one is, where it is led, how far apart both are led."""
    found = []
    for at, place in enumerate(places):
        start = told_at(places, ring, at + number)
        reach = told_at(places, ring, at + number + 1) - start
        found.append((told_at(places, ring, at + 1) - place, start, reach))
    return found


def many_led(places, number, ring):
    """How many WHEELS lead places by number."""
    told = _as_places_on(places, ring)
    many = 1
    for gap, _, reach in _spans(told, as_number(number), ring):
        many = many * comb(reach + gap - 1, gap - 1)
    return many


def rising_rows(many, first, last):
    """All rows of so many numbers from first to last, none below the one ahead of it."""
    rows = [()]
    for _ in range(many):
        rows = [row + (more,) for row in rows for more in range(row[-1] if row else first, last + 1)]
    return rows


def _all_led(places, number, ring):
    """All WHEELS that lead places by number, ascending."""
    rows = [()]
    for gap, start, reach in _spans(places, number, ring):
        between = rising_rows(gap - 1, start, start + reach)
        rows = [row + (start,) + more for row in rows for more in between]
    # These rows begin at the first of places: what stands at their end is led
    # from ahead of it, a round back.
    cut = ring - places[0]
    return sorted([tuple([own - ring for own in row[cut:]]) + row[:cut] for row in rows])


def wheel_between(places, number, ring, share):
    """The share-th, ascending, of all WHEELS that lead places by number."""
    told = _as_places_on(places, ring)
    many = many_led(told, number, ring)
    if as_number_from(share, 0) >= many:
        raise Unfit()
    if many > MOST_WHEELS:
        raise TooMany()
    return _all_led(told, number, ring)[share]
