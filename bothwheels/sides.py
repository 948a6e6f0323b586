"""Sides: on which side of a fraction a wheel turns, told by places that gain or lag."""

from bothwheels.errors import CanNot
from bothwheels.fractions import as_fraction, compared, greatest_of, least_of_all, quotient
from bothwheels.kinds import as_number, as_number_from, is_number
from bothwheels.turnings import after, refuse_no_place, turning
from bothwheels.wheels import as_wheel, led_to, power


def gains(wheel, beats):
    """How much further than itself each place is led by so many beats."""
    told = as_wheel(wheel)
    return _gains_of(power(told, as_number_from(beats, 1)))


def _gains_of(wheel):
    """How much further than itself wheel leads each place."""
    return tuple([number - place for place, number in enumerate(wheel)])


def _gainers(wheel, rounds, beats):
    """The list, ascending, of the places that gain rounds."""
    told = as_wheel(wheel)
    far = as_number(rounds) * len(told)
    return [place for place, gain in enumerate(gains(told, beats)) if gain >= far]


def _laggers(wheel, rounds, beats):
    """The list, ascending, of the places that lag."""
    told = as_wheel(wheel)
    far = as_number(rounds) * len(told)
    return [place for place, gain in enumerate(gains(told, beats)) if gain <= far]


def _first_of(places):
    """The first of these places; CanNot() if there is none."""
    if places == []:
        raise CanNot()
    return places[0]


def can_gain(wheel, rounds, beats):
    """Whether some place gains."""
    return _gainers(wheel, rounds, beats) != []


def can_lag(wheel, rounds, beats):
    """Whether some place lags."""
    return _laggers(wheel, rounds, beats) != []


def gainer(wheel, rounds, beats):
    """The least place that gains; CanNot() if none does."""
    return _first_of(_gainers(wheel, rounds, beats))


def lagger(wheel, rounds, beats):
    """The least place that lags; CanNot() if none does."""
    return _first_of(_laggers(wheel, rounds, beats))


def is_gainer(wheel, rounds, beats, thing):
    """Whether thing is a place that gains."""
    places = _gainers(wheel, rounds, beats)
    return is_number(thing) and thing in places


def is_lagger(wheel, rounds, beats, thing):
    """Whether thing is a place that lags."""
    places = _laggers(wheel, rounds, beats)
    return is_number(thing) and thing in places


def all_short(wheel, rounds, beats):
    """Whether no place gains."""
    return not can_gain(wheel, rounds, beats)


def all_beyond(wheel, rounds, beats):
    """Whether no place lags."""
    return not can_lag(wheel, rounds, beats)


def _gains_by_beats(wheel):
    """The list of pairs (beats, the gains of the places), beats from 1 to as many as places."""
    found = []
    further = tuple(range(len(wheel)))
    for beats in range(1, len(wheel) + 1):
        further = tuple([led_to(wheel, number) for number in further])
        found.append((beats, _gains_of(further)))
    return found


def by_gains(wheel):
    """The greatest FRACTION, with as many beats as places at most, that some place gains."""
    told = as_wheel(wheel)
    return greatest_of([quotient(max(own) // len(told), beats) for beats, own in _gains_by_beats(told)])


def by_lags(wheel):
    """The least FRACTION, with as many beats as places at most, with which some place lags."""
    told = as_wheel(wheel)
    return least_of_all([quotient(-(-min(own) // len(told)), beats) for beats, own in _gains_by_beats(told)])


def by_walk(wheel, place, beats):
    """The pair of the FRACTIONS of the rounds, rounded down and up, that place is led further a beat."""
    told = as_wheel(wheel)
    start = as_number(place)
    many = as_number_from(beats, 1)
    refuse_no_place(told, start)
    gain = after(told, start, many) - start
    return (quotient(gain // len(told), many), quotient(-(-gain // len(told)), many))


def side_of(wheel, fraction):
    """1, 0, -1, as the TURNING of wheel is above fraction, is it, is below it."""
    told = as_wheel(wheel)
    return compared(turning(told), as_fraction(fraction))
