"""One judge: whether demands stand, papers against them, reasons for them."""

from bothwheels.errors import Unfit
from bothwheels.fractions import common_bottom, floor_times, is_fraction, is_turns, less_than, quotient
from bothwheels.kinds import are_numbers, is_just, is_number, with_tuples
from bothwheels.makers import reached, turn_by
from bothwheels.most import most
from bothwheels.rows import bar, best_row, is_bar, led_train, most_of
from bothwheels.teeth import end_of_teeth, is_teeth, plan, teeth_between
from bothwheels.turnings import after, come_back, turning
from bothwheels.wheels import is_train, is_wheel, put_together
from bothwheels.words import is_word, word_turning


def _is_train_demand(thing):
    """Whether what stands in thing is as in a DEMAND of the kind train."""
    _, train, fraction = thing
    return is_train(train) and is_fraction(fraction)


def _train_stands(demand):
    """Whether the TRAIN turns at most by the FRACTION."""
    _, train, fraction = demand
    return not less_than(fraction, turning(put_together(train)))


def _train_paper(demand):
    """The RETURN of a TRAIN that turns by more, or None."""
    return None if _train_stands(demand) else come_back(put_together(demand[1]))


def _train_reason(demand):
    """The RETURN of a TRAIN that does not, or None."""
    return come_back(put_together(demand[1])) if _train_stands(demand) else None


def _is_walk(wheel, thing):
    """Whether thing is a triple (place, beats, rounds) of numbers, of a place of wheel and of beats from 1."""
    if not isinstance(thing, tuple) or len(thing) != 3 or not are_numbers(thing):
        return False
    place, beats, _ = thing
    return 0 <= place < len(wheel) and beats >= 1


def _is_train_paper(demand, thing):
    """Whether thing tells a place that comes on by more than the FRACTION."""
    _, train, fraction = demand
    wheel = put_together(train)
    if not _is_walk(wheel, thing):
        return False
    place, beats, rounds = thing
    goal = place + rounds * len(wheel)
    return less_than(fraction, quotient(rounds, beats)) and after(wheel, place, beats) >= goal


def _is_train_reason(demand, thing):
    """Whether thing tells a place that comes on by no more than the FRACTION."""
    _, train, fraction = demand
    wheel = put_together(train)
    if not _is_walk(wheel, thing):
        return False
    place, beats, rounds = thing
    goal = place + rounds * len(wheel)
    return not less_than(fraction, quotient(rounds, beats)) and after(wheel, place, beats) <= goal


def _is_most_demand(thing):
    """Whether what stands in thing is as in a DEMAND of the kind most."""
    _, turns, fraction = thing
    return is_turns(turns) and is_fraction(fraction)


def _most_stands(demand):
    """Whether MOST of the TURNS is at most the FRACTION."""
    _, turns, fraction = demand
    return not less_than(fraction, most(turns))


def _most_paper(demand):
    """A TRAIN of the TURNS that turns by more, or None."""
    return None if _most_stands(demand) else reached(demand[1])


def _is_most_paper(demand, thing):
    """Whether thing is a TRAIN of the TURNS that turns by more."""
    _, turns, fraction = demand
    return is_train(thing) and turn_by(thing, turns) and less_than(fraction, turning(put_together(thing)))


def _wholes(turns):
    """For each number up to the common bottom of turns, the whole rounds of its value."""
    last = common_bottom(turns)
    return tuple([
        sum([floor_times(own, number) for own in turns]) + len(turns) - 1 for number in range(1, last + 1)
    ])


def _most_reason(demand):
    """The whole rounds of all values, or None."""
    return _wholes(demand[1]) if _most_stands(demand) else None


def _is_most_reason(demand, thing):
    """Whether thing is the whole rounds of all values."""
    return is_just(thing, _wholes(demand[1]))


def _is_word_demand(thing):
    """Whether what stands in thing is as in a DEMAND of the kind word."""
    _, word, turns, fraction = thing
    if not is_word(word) or not is_turns(turns) or not is_fraction(fraction):
        return False
    return len(turns) == max(word) + 1


def _word_stands(demand):
    """Whether MOST of the WORD and the TURNS is below the FRACTION."""
    _, word, turns, fraction = demand
    return less_than(most_of(word, turns), fraction)


def _word_paper(demand):
    """A TRAIN of the TURNS that turns by the FRACTION or more in the WORD, or None."""
    word, turns = demand[1:3]
    if _word_stands(demand):
        return None
    return led_train(best_row(word, turns), [top for top, bottom in turns])


def _is_word_paper(demand, thing):
    """Whether thing is a TRAIN of the TURNS that turns by the FRACTION or more in the WORD."""
    _, word, turns, fraction = demand
    return is_train(thing) and turn_by(thing, turns) and not less_than(word_turning(thing, word), fraction)


def _word_reason(demand):
    """The BAR, or None."""
    _, word, turns, fraction = demand
    return bar(word, turns, fraction) if _word_stands(demand) else None


def _is_word_reason(demand, thing):
    """Whether thing is the BAR."""
    _, word, turns, fraction = demand
    return is_bar(word, turns, fraction, thing)


def _is_teeth_demand(thing):
    """Whether what stands in thing is as in a DEMAND of the kind teeth."""
    _, wheel, other, number = thing
    if not is_wheel(wheel) or not is_wheel(other) or len(wheel) != len(other):
        return False
    return is_number(number) and number >= 0


def _teeth_stands(demand):
    """Whether so many TEETH do from the one WHEEL to the other."""
    _, wheel, other, number = demand
    return teeth_between(wheel, other) <= number


def _gained(demand):
    """What the numbers of the second WHEEL are more than those of the first one."""
    wheel, other = demand[1:3]
    return tuple([further - near for near, further in zip(wheel, other)])


def _teeth_paper(demand):
    """What the one WHEEL lacks of the other, or None."""
    return None if _teeth_stands(demand) else _gained(demand)


def _is_teeth_paper(demand, thing):
    """Whether thing is what the one WHEEL lacks of the other."""
    return is_just(thing, _gained(demand))


def _teeth_reason(demand):
    """A PLAN from the one WHEEL to the other, or None; TooMany() if it would be too long."""
    return plan(demand[1], demand[2]) if _teeth_stands(demand) else None


def _is_teeth_reason(demand, thing):
    """Whether thing is a PLAN, of so many TEETH at most, from the one WHEEL to the other."""
    _, wheel, other, number = demand
    return is_teeth(thing) and len(thing) <= number and end_of_teeth(wheel, thing) == other


# Whether a paper, a reason is one is asked only of a DEMAND that falls, that stands.
LENGTHS = {"train": 3, "most": 3, "word": 4, "teeth": 4}
CHECKS = {"train": _is_train_demand, "most": _is_most_demand, "word": _is_word_demand, "teeth": _is_teeth_demand}
STANDS = {"train": _train_stands, "most": _most_stands, "word": _word_stands, "teeth": _teeth_stands}
PAPERS = {"train": _train_paper, "most": _most_paper, "word": _word_paper, "teeth": _teeth_paper}
REASONS = {"train": _train_reason, "most": _most_reason, "word": _word_reason, "teeth": _teeth_reason}
ARE_PAPERS = {"train": _is_train_paper, "most": _is_most_paper, "word": _is_word_paper, "teeth": _is_teeth_paper}
ARE_REASONS = {"train": _is_train_reason, "most": _is_most_reason, "word": _is_word_reason, "teeth": _is_teeth_reason}


def is_demand(thing):
    """Whether thing is a DEMAND."""
    if not isinstance(thing, tuple) or thing == () or not isinstance(thing[0], str):
        return False
    kind = thing[0]
    if kind not in LENGTHS or len(thing) != LENGTHS[kind]:
        return False
    check = CHECKS[kind]
    return check(thing)


def _as_demand(value):
    """The DEMAND that value is, as tuples; Unfit() if it is none."""
    told = with_tuples(value, 3)
    if not is_demand(told):
        raise Unfit()
    return told


def _as_demands(value):
    """The tuple of DEMANDS that value is; Unfit() if it is none."""
    told = with_tuples(value, 4)
    if not isinstance(told, tuple) or not all([is_demand(own) for own in told]):
        raise Unfit()
    return told


def is_so(demand):
    """Whether demand stands."""
    told = _as_demand(demand)
    stands = STANDS[told[0]]
    return stands(told)


def paper_against(demand):
    """A PAPER against demand, None if it stands."""
    told = _as_demand(demand)
    paper = PAPERS[told[0]]
    return paper(told)


def is_paper_against(demand, thing):
    """Whether thing is a PAPER against demand."""
    told = _as_demand(demand)
    if is_so(told):
        return False
    is_paper = ARE_PAPERS[told[0]]
    return is_paper(told, thing)


def reason_for(demand):
    """A REASON for demand, None if it does not stand."""
    told = _as_demand(demand)
    reason = REASONS[told[0]]
    return reason(told)


def is_reason_for(demand, thing):
    """Whether thing is a REASON for demand."""
    told = _as_demand(demand)
    if not is_so(told):
        return False
    is_reason = ARE_REASONS[told[0]]
    return is_reason(told, thing)


def first_fallen(demands):
    """The number of the first of demands that does not stand, None if all do."""
    for at, demand in enumerate(_as_demands(demands)):
        if not is_so(demand):
            return at
    return None
