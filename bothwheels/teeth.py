"""Teeth: steps of one place each by which a wheel becomes another, or comes to turn by a goal."""

from bothwheels.errors import Broken, CanNot, TooMany, Unfit
from bothwheels.fractions import as_fraction, less_than
from bothwheels.kinds import are_numbers, is_number, with_tuples
from bothwheels.led import rising_rows
from bothwheels.rings import last_up_to, told_at
from bothwheels.turnings import turning
from bothwheels.wheels import as_wheel, is_wheel, led_to

MOST_TEETH = 2000
MOST_PLACES = 8
MOST_BOTTOM = 6


def is_tooth(thing):
    """Whether thing is a TOOTH: a pair of a number from 0 and of 1 or -1."""
    if not isinstance(thing, tuple) or len(thing) != 2 or not are_numbers(thing):
        return False
    place, way = thing
    return place >= 0 and (way == 1 or way == -1)


def is_teeth(thing):
    """Whether thing is a PLAN, whatever WHEEL it is for."""
    return isinstance(thing, tuple) and all([is_tooth(own) for own in thing])


def _as_tooth(value):
    """The TOOTH that value is, as a tuple; Unfit() if it is none."""
    told = with_tuples(value, 1)
    if not is_tooth(told):
        raise Unfit()
    return told


def _as_plan(value):
    """The PLAN that value is, as a tuple of tuples; Unfit() if it is none."""
    told = with_tuples(value, 2)
    if not is_teeth(told):
        raise Unfit()
    return told


def as_wheel_pair(wheel, other):
    """The pair of WHEELS of one ring that these are; Unfit() if they are none."""
    told = as_wheel(wheel)
    beside = as_wheel(other)
    if len(told) != len(beside):
        raise Unfit()
    return (told, beside)


def lesser(wheel, other):
    """The WHEEL of the lesser numbers of both."""
    told, beside = as_wheel_pair(wheel, other)
    return tuple([min(one, two) for one, two in zip(told, beside)])


def greater(wheel, other):
    """The WHEEL of the greater numbers of both."""
    told, beside = as_wheel_pair(wheel, other)
    return tuple([max(one, two) for one, two in zip(told, beside)])


def put_tooth(wheel, tooth):
    """wheel behind tooth, a pair of any number and 1 or -1; None if it can't be put."""
    place, way = tooth
    if not 0 <= place < len(wheel):
        return None
    behind = wheel[:place] + (wheel[place] + way,) + wheel[place + 1:]
    return behind if is_wheel(behind) else None


def teeth(wheel):
    """The set of all TEETH that can be put to wheel."""
    told = as_wheel(wheel)
    every = [(place, way) for place in range(len(told)) for way in (-1, 1)]
    return tuple([tooth for tooth in every if put_tooth(told, tooth) is not None])


def with_tooth(wheel, tooth):
    """wheel behind tooth; CanNot() if it can't be put."""
    told = as_wheel(wheel)
    behind = put_tooth(told, _as_tooth(tooth))
    if behind is None:
        raise CanNot()
    return behind


def _wheels_along(wheel, teeth_in_order):
    """The list of wheel and of the WHEEL behind each TOOTH; Broken(place) of the first that can't be put."""
    found = [wheel]
    for place, tooth in enumerate(teeth_in_order):
        behind = put_tooth(found[-1], tooth)
        if behind is None:
            raise Broken(place)
        found.append(behind)
    return found


def behind_plan(wheel, plan):
    """The WHEEL behind all TEETH of plan; Broken(place) of the first that can't be put."""
    told = as_wheel(wheel)
    return _wheels_along(told, _as_plan(plan))[-1]


def turnings_along(wheel, plan):
    """The list of the TURNINGS of wheel and of the WHEEL behind each TOOTH of plan."""
    told = as_wheel(wheel)
    return [turning(own) for own in _wheels_along(told, _as_plan(plan))]


def _apart(wheel, other):
    """By how much the numbers of two WHEELS of one ring differ, added up."""
    return sum([abs(one - two) for one, two in zip(wheel, other)])


def teeth_between(wheel, other):
    """Of how many TEETH the shortest PLANS from wheel to other are."""
    told, beside = as_wheel_pair(wheel, other)
    return _apart(told, beside)


def _tooth_down(wheel, low):
    """A TOOTH by which wheel comes nearer to low, a lesser WHEEL; None if it is low."""
    for place, number in enumerate(wheel):
        # Only the first place with a number can be made less.
        if number > low[place] and led_to(wheel, place - 1) < number:
            return (place, -1)
    return None


def _plan_down(wheel, low):
    """The TEETH, in order, of a shortest PLAN from wheel to low, a lesser WHEEL."""
    found = []
    at = wheel
    tooth = _tooth_down(at, low)
    while tooth is not None:
        found.append(tooth)
        at = put_tooth(at, tooth)
        tooth = _tooth_down(at, low)
    return found


def _shortest(wheel, other):
    """A shortest PLAN from wheel to other, of one ring; TooMany() if it would be too long."""
    if _apart(wheel, other) > MOST_TEETH:
        raise TooMany()
    low = lesser(wheel, other)
    up = [(place, -way) for place, way in _plan_down(other, low)]
    return tuple(_plan_down(wheel, low) + up[::-1])


def plan(wheel, other):
    """A shortest PLAN from wheel to other; TooMany() if it would be too long."""
    told, beside = as_wheel_pair(wheel, other)
    return _shortest(told, beside)


def end_of_teeth(wheel, thing):
    """The WHEEL behind all of thing, a PLAN; None if a TOOTH of it can't be put."""
    try:
        return _wheels_along(wheel, thing)[-1]
    except Broken:
        return None


def is_plan(wheel, other, thing):
    """Whether thing is a shortest PLAN from wheel to other."""
    told, beside = as_wheel_pair(wheel, other)
    if not is_teeth(thing) or len(thing) != _apart(told, beside):
        return False
    return end_of_teeth(told, thing) == beside


def _is_rising_in(row, ring):
    """Whether row, a tuple of numbers, is of places of a ring, none below the one ahead."""
    if row[0] < 0 or row[-1] >= ring:
        return False
    return all([place <= further for place, further in zip(row, row[1:])])


def _row_wheel(row, top, ring):
    """The WHEEL that leads each place to what stands top further in row than the last one up to it."""
    return tuple([told_at(row, ring, last_up_to(row, ring, place) + top) for place in range(ring)])


def row_wheel(row, goal, ring):
    """The WHEEL that row tells for goal."""
    told = with_tuples(row, 1)
    top, bottom = as_fraction(goal)
    if not isinstance(told, tuple) or not are_numbers(told) or len(told) != bottom:
        raise Unfit()
    if not is_number(ring) or not _is_rising_in(told, ring):
        raise Unfit()
    return _row_wheel(told, top, ring)


def _as_wheel_and_goal(wheel, goal):
    """The pair of WHEEL and FRACTION that these are; Unfit(), then TooMany() beyond the limits."""
    told = as_wheel(wheel)
    top, bottom = as_fraction(goal)
    if len(told) > MOST_PLACES or bottom > MOST_BOTTOM:
        raise TooMany()
    return (told, (top, bottom))


def _nearest(wheel, goal):
    """The WHEEL that turns by goal or more, wheel or a greater one, for which fewest TEETH do."""
    top, bottom = goal
    rising = [_row_wheel(row, top, len(wheel)) for row in rising_rows(bottom, 0, len(wheel) - 1)]
    ends = [greater(wheel, own) for own in rising]
    return min(ends, key=sum)


def fewest(wheel, goal):
    """Of how many TEETH the shortest PLANS are behind which wheel turns by goal or more."""
    told, least_turning = _as_wheel_and_goal(wheel, goal)
    return _apart(told, _nearest(told, least_turning))


def fewest_plan(wheel, goal):
    """A shortest PLAN behind which wheel turns by goal or more; TooMany() if it would be too long."""
    told, least_turning = _as_wheel_and_goal(wheel, goal)
    return _shortest(told, _nearest(told, least_turning))


def is_fewest_plan(wheel, goal, thing):
    """Whether thing is a shortest PLAN behind which wheel turns by goal or more."""
    told, least_turning = _as_wheel_and_goal(wheel, goal)
    if not is_teeth(thing) or len(thing) != fewest(told, least_turning):
        return False
    end = end_of_teeth(told, thing)
    return end is not None and not less_than(turning(end), least_turning)
