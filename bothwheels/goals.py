"""Goals: at which beats marks that are led by wheels reach, pass and meet."""

from math import lcm

from bothwheels.errors import CanNot, Unfit
from bothwheels.kinds import as_number, as_number_from
from bothwheels.turnings import after, come_back
from bothwheels.wheels import as_wheel, led_to, shift


def way_of(wheel, place):
    """1, -1, 0, as the mark from place on is led on at beat 1, led back, or stands."""
    told = as_wheel(wheel)
    start = as_number(place)
    to = led_to(told, start)
    if to == start:
        return 0
    return 1 if to > start else -1


def _gaps(wheel, place, other, far):
    """A triple that tells how far the mark of wheel is beyond that of other, beat by beat.

    The gaps at the first beats; how many beats, at the end of these, come again
    and again; by how much greater each gap is when it comes again.
    """
    places = len(wheel)
    _, beats, rounds = come_back(wheel)
    _, other_beats, other_rounds = come_back(other)
    period = lcm(beats, other_beats)
    more = (rounds * (period // beats) - other_rounds * (period // other_beats)) * places
    found = []
    one, two = place, far
    # By N beats both marks are at own places, rounds apart.
    for _ in range(places + period):
        found.append(one - two)
        one = led_to(wheel, one)
        two = led_to(other, two)
    return (found, period, more)


def _first_of(beats):
    """The least of these beats, None if there is none."""
    return min(beats, default=None)


def _first_not_below(wheel, place, other, far):
    """The first beat at which the mark of wheel is at that of other or beyond, or None."""
    gaps, period, more = _gaps(wheel, place, other, far)
    beats = []
    for beat, gap in enumerate(gaps):
        if gap >= 0:
            beats.append(beat)
        elif beat >= len(wheel) and more > 0:
            beats.append(beat + period * -(gap // more))
    return _first_of(beats)


def _first_at(wheel, place, goal):
    """The first beat at which the mark of wheel from place on is at goal or beyond, or None."""
    # The goal is a mark that stands.
    return _first_not_below(wheel, place, shift(len(wheel), 0), goal)


def first_at(wheel, place, goal):
    """The first beat at which the mark from place on is at goal or beyond, or None."""
    told = as_wheel(wheel)
    start = as_number(place)
    return _first_at(told, start, as_number(goal))


def last_below(wheel, place, goal):
    """The last beat at which the mark from place on is below goal, or None; CanNot() if it is so for ever."""
    told = as_wheel(wheel)
    start = as_number(place)
    end = as_number(goal)
    rounds = come_back(told)[2]
    # Without rounds it stands for ever, by N beats.
    if rounds < 0 or rounds == 0 and after(told, start, len(told)) < end:
        raise CanNot()
    # A mark never turns back: what is not below goal for ever is below it ahead of this beat alone.
    first = _first_at(told, start, end)
    return None if first == 0 else first - 1


def _as_marks(wheel, place, other, far):
    """The tuple of two WHEELS of one ring, each with a number, that these are; Unfit() if they are none."""
    told = (as_wheel(wheel), as_number(place), as_wheel(other), as_number(far))
    if len(told[0]) != len(told[2]):
        raise Unfit()
    return told


def first_passed(wheel, place, other, far):
    """The first beat at which the mark from place on is at the one from far on, or beyond it, or None."""
    one, start, two, ahead = _as_marks(wheel, place, other, far)
    return _first_not_below(one, start, two, ahead)


def meeting(wheel, place, other, far):
    """The first beat at which both marks are at one number, or None."""
    one, start, two, ahead = _as_marks(wheel, place, other, far)
    gaps, period, more = _gaps(one, start, two, ahead)
    beats = []
    for beat, gap in enumerate(gaps):
        if gap == 0:
            beats.append(beat)
        elif beat >= len(one) and more != 0 and gap % more == 0 and -gap // more > 0:
            beats.append(beat + period * (-gap // more))
    return _first_of(beats)


def meeting_place(wheel, place, other, far):
    """The first beat at which both marks are at one place, rounds apart or not, or None."""
    one, start, two, ahead = _as_marks(wheel, place, other, far)
    gaps = _gaps(one, start, two, ahead)[0]
    # What is more when a gap comes again are whole rounds.
    return _first_of([beat for beat, gap in enumerate(gaps) if gap % len(one) == 0])


def _gaining_beats(wheel, rounds):
    """The list, place by place, of the beats at which the marks first have gained so many rounds, or None."""
    far = rounds * len(wheel)
    return [_first_at(wheel, place, place + far) for place in range(len(wheel))]


def slowest(wheel, rounds):
    """The pair of the place from which a mark gains so many rounds last, and of the beat; None if one never does."""
    beats = _gaining_beats(as_wheel(wheel), as_number_from(rounds, 1))
    if None in beats:
        return None
    return (beats.index(max(beats)), max(beats))


def quickest(wheel, rounds):
    """The pair of the place from which a mark gains so many rounds first, and of the beat; None if none ever does."""
    beats = _gaining_beats(as_wheel(wheel), as_number_from(rounds, 1))
    able = [beat for beat in beats if beat is not None]
    if able == []:
        return None
    return (beats.index(min(able)), min(able))
