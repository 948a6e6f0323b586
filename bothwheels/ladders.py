"""Ladders: ever lesser rings that bound by how much a train turns."""

from bothwheels.errors import CanNot, Unfit
from bothwheels.fractions import quotient
from bothwheels.kinds import are_numbers, is_just, with_tuples
from bothwheels.led import led_by
from bothwheels.most import value_at
from bothwheels.seen import least_keeping, seen, strictly_seen
from bothwheels.turnings import turning
from bothwheels.wheels import as_train, from_elsewhere, is_shift, is_train, put_together, shift, steps_of


def is_rung(thing):
    """Whether thing is a RUNG."""
    if not isinstance(thing, tuple) or len(thing) != 3 or not are_numbers(thing[:2]):
        return False
    places, _, train = thing
    if places < 1 or not isinstance(train, tuple):
        return False
    if len(train) == 0:
        return True
    return is_train(train) and len(train[0]) == places


def as_rung(value):
    """The RUNG that value is, as a tuple of tuples; Unfit() if it is none."""
    told = with_tuples(value, 3)
    if not is_rung(told):
        raise Unfit()
    return told


def _as_rungs(value):
    """The tuple, maybe (), of RUNGS that value is; Unfit() if it is none."""
    told = with_tuples(value, 4)
    if not isinstance(told, tuple) or not all([is_rung(own) for own in told]):
        raise Unfit()
    return told


def _slipping(train):
    """The numbers of the WHEELS of train, maybe (), that are no SHIFTS."""
    return [at for at, wheel in enumerate(train) if not is_shift(wheel)]


def first_rung(train):
    """The first RUNG of the LADDER of train."""
    told = as_train(train)
    kept = least_keeping(told[0])
    # One place lost in each of the others is given back in the word of the RUNG.
    return (len(kept), led_by(told[0], kept), tuple([strictly_seen(wheel, kept) for wheel in told[1:]]))


def next_rung(rung):
    """The RUNG behind this one in a LADDER; CanNot() if all its WHEELS are SHIFTS."""
    places, steps, train = as_rung(rung)
    slipping = _slipping(train)
    if slipping == []:
        raise CanNot()
    at = slipping[0]
    kept = least_keeping(train[at])
    # The word is begun elsewhere, so that this WHEEL stands first in it.
    ahead = tuple([from_elsewhere(wheel, 1) for wheel in train[:at]])
    others = train[at + 1:] + (shift(places, steps),) + ahead
    return (len(kept), led_by(train[at], kept), tuple([seen(wheel, kept) for wheel in others]))


def _rungs_of(train):
    """The LADDER of train."""
    found = [first_rung(train)]
    while _slipping(found[-1][2]) != []:
        found.append(next_rung(found[-1]))
    return tuple(found)


def ladder(train):
    """The LADDER of train."""
    return _rungs_of(train)


def is_ladder(train, thing):
    """Whether thing is the LADDER of train."""
    return is_just(thing, _rungs_of(train))


def rung_word(rung):
    """The WHEEL of the word of rung."""
    places, steps, train = as_rung(rung)
    letters = [shift(places, steps)]
    for wheel in train:
        letters.append(shift(places, 1))
        letters.append(wheel)
    return put_together(letters)


def rung_turning(rung):
    """The FRACTION by which rung turns."""
    return turning(rung_word(rung))


def _last_rung(ladder):
    """The last RUNG of ladder; Unfit() if it has none, or one with WHEELS that are no SHIFTS."""
    told = _as_rungs(ladder)
    if told == () or _slipping(told[-1][2]) != []:
        raise Unfit()
    return told[-1]


def end_of(ladder):
    """The end of ladder, told by its last RUNG."""
    places, steps, train = _last_rung(ladder)
    return quotient(steps + sum([steps_of(wheel) for wheel in train]) + len(train), places)


def ring_of(ladder):
    """How many places the last RUNG of ladder has."""
    return _last_rung(ladder)[0]


def bound_of(train):
    """The pair of the end of the LADDER of train, and of the value of its TURNINGS at its last ring."""
    told = as_train(train)
    rungs = _rungs_of(told)
    return (end_of(rungs), value_at([turning(wheel) for wheel in told], ring_of(rungs)))


def broken_at(train, ladder):
    """The number of the first RUNG that is not as in the LADDER of train, or None."""
    own = _rungs_of(train)
    told = _as_rungs(ladder)
    for at, rung in enumerate(own):
        if at >= len(told) or told[at] != rung:
            return at
    return None if len(told) == len(own) else len(own)
