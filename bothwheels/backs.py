"""Backs: wheels that lead back, and mirrored ones."""

from bothwheels.wheels import as_train, as_wheel, led_to


def first_back(wheel):
    """The WHEEL that leads each number to the first one that wheel leads to it or beyond."""
    told = as_wheel(wheel)
    places = len(told)
    # This number is led below 0, and less than a round ahead of what is not.
    at = (-(told[0] // places) - 1) * places
    found = []
    for goal in range(places):
        while led_to(told, at) < goal:
            at += 1
        found.append(at)
    return tuple(found)


def last_back(wheel):
    """The WHEEL that leads each number to the last one that wheel leads to it or not so far."""
    back = first_back(wheel)
    # Behind it stands the first one that is led further.
    return tuple([led_to(back, place + 1) - 1 for place in range(len(back))])


def mirrored(wheel):
    """The WHEEL that leads each number to the contrary of where wheel leads its contrary."""
    told = as_wheel(wheel)
    return tuple([-led_to(told, -place) for place in range(len(told))])


def back_train(train):
    """The TRAIN of the first backs, the last WHEEL's first."""
    return tuple([first_back(wheel) for wheel in reversed(as_train(train))])


def mirrored_train(train):
    """The TRAIN of the mirrored WHEELS, in their order."""
    return tuple([mirrored(wheel) for wheel in as_train(train)])


def is_back_pair(wheel, other):
    """Whether other is the first back of wheel."""
    back = first_back(wheel)
    return as_wheel(other) == back
