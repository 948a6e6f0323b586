"""Makers: wheels raised and lowered to a turning, trains that turn by the most and by the least."""

from bothwheels.backs import mirrored, mirrored_train
from bothwheels.errors import CanNot
from bothwheels.fractions import as_fraction, as_turns, common_bottom, floor_times, less_than, negative
from bothwheels.kinds import is_number
from bothwheels.led import greatest_led
from bothwheels.most import bottoms, least, most
from bothwheels.turnings import come_back, turning
from bothwheels.wheels import as_wheel, is_train, is_wheel, led_to, put_together


def _row_over(wheel, fraction):
    """A row of places, as many as the bottom of fraction, told from an own place on, within a round.

    Told on, wheel leads none of them beyond the one that is the top of fraction
    further in the row; wheel is known to turn at most by fraction.
    """
    top, bottom = fraction
    start = come_back(wheel)[0]
    at = start
    found = {}
    for beat in range(bottom):
        rounds, index = divmod(beat * top, bottom)
        # The row never falls: no place stands ahead of the first one, so many rounds on.
        at = max(at, start + rounds * len(wheel))
        found[index] = at - rounds * len(wheel)
        at = led_to(wheel, at)
    return [found[index] for index in range(bottom)]


def _raised_places(wheel, fraction):
    """The places that a raised WHEEL leads, on a ring with as many for each place as the bottom of fraction."""
    bottom = fraction[1]
    row = _row_over(wheel, fraction)
    # Places that are alike in the row are parted: at most as many as the bottom are alike.
    parted = [bottom * place + index - row.index(place) for index, place in enumerate(row)]
    return tuple(sorted([place % (bottom * len(wheel)) for place in parted]))


def raised(wheel, fraction):
    """A pair raised from wheel to fraction; CanNot() if wheel turns by more."""
    told = as_wheel(wheel)
    top, bottom = as_fraction(fraction)
    if less_than((top, bottom), turning(told)):
        raise CanNot()
    return (greatest_led(_raised_places(told, (top, bottom)), top, bottom * len(told)), bottom)


def lowered(wheel, fraction):
    """A pair lowered from wheel to fraction; CanNot() if wheel turns by less."""
    other, many = raised(mirrored(wheel), negative(fraction))
    return (mirrored(other), many)


def _is_finer_pair(wheel, thing):
    """Whether thing is a pair of a WHEEL and of how many places this has for each of wheel's."""
    if not isinstance(thing, tuple) or len(thing) != 2:
        return False
    other, many = thing
    return is_wheel(other) and is_number(many) and len(other) == many * len(wheel)


def _is_no_less(wheel, other, many):
    """Whether other, with so many places for each one of wheel's, is no less than wheel."""
    return all([other[many * place] >= many * number for place, number in enumerate(wheel)])


def is_raised(wheel, fraction, thing):
    """Whether thing is a pair raised from wheel to fraction."""
    told = as_wheel(wheel)
    goal = as_fraction(fraction)
    if not _is_finer_pair(told, thing):
        return False
    other, many = thing
    return _is_no_less(told, other, many) and turning(other) == goal


def is_lowered(wheel, fraction, thing):
    """Whether thing is a pair lowered from wheel to fraction."""
    told = as_wheel(wheel)
    goal = as_fraction(fraction)
    if not _is_finer_pair(told, thing):
        return False
    other, many = thing
    return _is_no_less(mirrored(told), mirrored(other), many) and turning(other) == goal


def _places_that_reach(turns):
    """For each of turns the places, on one ring for all, that its WHEEL leads by the top."""
    size = bottoms(turns)[0]
    ring = len(turns) * size
    common = common_bottom(turns)
    found = []
    for letter, own in enumerate(turns):
        # The places of the letters stand in turn: so each WHEEL but the one that
        # leads first comes to stand behind its own place, and gains one of them.
        base = greatest_led(tuple(range(letter, ring, len(turns))), floor_times(own, size), ring)
        many = common // own[1]
        found.append([many * place for place in _raised_places(base, own)])
    return found


def reached(turns):
    """A TRAIN whose WHEELS turn by turns, and which together turns by MOST."""
    told = as_turns(turns)
    spread = _places_that_reach(told)
    kept = sorted({place for some in spread for place in some})
    # No other place of that ring is ever led to: it may be left out.
    number = {place: at for at, place in enumerate(kept)}
    train = []
    for own, places in zip(told, spread):
        train.append(greatest_led(tuple([number[place] for place in places]), own[0], len(kept)))
    return tuple(train)


def lowest(turns):
    """A TRAIN whose WHEELS turn by turns, and which together turns by LEAST."""
    return mirrored_train(reached([negative(own) for own in as_turns(turns)]))


def turn_by(train, turns):
    """Whether the WHEELS of train, known to be a TRAIN, are as many as turns and turn by these, in order."""
    return [turning(wheel) for wheel in train] == list(turns)


def is_reached(turns, thing):
    """Whether thing is a TRAIN whose WHEELS turn by turns, and which together turns by MOST."""
    told = as_turns(turns)
    goal = most(told)
    return is_train(thing) and turn_by(thing, told) and turning(put_together(thing)) == goal


def is_lowest(turns, thing):
    """Whether thing is a TRAIN whose WHEELS turn by turns, and which together turns by LEAST."""
    told = as_turns(turns)
    goal = least(told)
    return is_train(thing) and turn_by(thing, told) and turning(put_together(thing)) == goal
