"""Wheels seen on some places of their ring, or over them, as wheels of so many places."""

from bothwheels.kinds import as_number_from
from bothwheels.rings import as_places, first_from, last_up_to, told_at
from bothwheels.turnings import come_back, orbit, turning
from bothwheels.wheels import as_train, as_wheel, led_to


def seen(wheel, places):
    """wheel seen on places."""
    told = as_wheel(wheel)
    some = as_places(places, len(told))
    return tuple([last_up_to(some, len(told), led_to(told, place)) for place in some])


def strictly_seen(wheel, places):
    """wheel strictly seen on places."""
    told = as_wheel(wheel)
    some = as_places(places, len(told))
    return tuple([last_up_to(some, len(told), led_to(told, place) - 1) for place in some])


def seen_over(wheel, places):
    """wheel seen over places."""
    told = as_wheel(wheel)
    some = as_places(places, len(told))
    return tuple([first_from(some, len(told), led_to(told, place)) for place in some])


def all_seen(train, places):
    """The TRAIN of the WHEELS of train, each seen on places."""
    return tuple([seen(wheel, places) for wheel in as_train(train)])


def all_strictly_seen(train, places):
    """The TRAIN of the WHEELS of train, each strictly seen on places."""
    return tuple([strictly_seen(wheel, places) for wheel in as_train(train)])


def left_behind(wheel, places):
    """How many steps wheel leads each of places beyond the one at which it is seen."""
    told = as_wheel(wheel)
    some = as_places(places, len(told))
    at = [told_at(some, len(told), number) for number in seen(told, some)]
    return tuple([led_to(told, place) - own for place, own in zip(some, at)])


def _led_within(wheel, places):
    """Those of places, maybe (), that wheel leads to one of them."""
    return tuple([place for place in places if led_to(wheel, place) % len(wheel) in places])


def are_kept(wheel, places):
    """Whether wheel leads each of places to one of them."""
    told = as_wheel(wheel)
    some = as_places(places, len(told))
    return _led_within(told, some) == some


def kept_within(wheel, places):
    """The set of those of places whose whole orbit lies among them."""
    told = as_wheel(wheel)
    some = as_places(places, len(told))
    left = _led_within(told, some)
    # What is led to a place that is left out is left out, too.
    while left != some:
        some = left
        left = _led_within(told, some)
    return some


def places_within(places, ring, numbers):
    """The PLACES that have these numbers among places."""
    some = as_places(places, as_number_from(ring, 1))
    return tuple([some[number] for number in as_places(numbers, len(some))])


def keeps_turning(wheel, places):
    """Whether wheel, seen on places, turns as by itself."""
    told = as_wheel(wheel)
    return turning(seen(told, places)) == turning(told)


def least_keeping(wheel):
    """The set of the places of the orbit that the RETURN of wheel tells."""
    told = as_wheel(wheel)
    return tuple(sorted(orbit(told, come_back(told)[0])))
