"""Texts that tell trains, rungs and wishes, a row a line."""

from bothwheels.errors import BadText, Unfit
from bothwheels.fractions import is_fraction, is_turns
from bothwheels.kinds import with_tuples
from bothwheels.ladders import is_rung
from bothwheels.signs import fraction_of, fraction_piece, number_of, piece_of, pieces
from bothwheels.wheels import as_train, is_wheel
from bothwheels.words import is_word


def is_wish(thing):
    """Whether thing is a WISH."""
    if not isinstance(thing, tuple) or len(thing) != 3:
        return False
    word, turns, goal = thing
    if not is_word(word) or not is_turns(turns) or not is_fraction(goal):
        return False
    return len(turns) == max(word) + 1


def is_rungs(thing):
    """Whether thing is a tuple, not (), of RUNGS."""
    return isinstance(thing, tuple) and thing != () and all([is_rung(own) for own in thing])


def _as_rungs(value):
    """The RUNGS that value is, as tuples; Unfit() if it is none."""
    told = with_tuples(value, 4)
    if not is_rungs(told):
        raise Unfit()
    return told


def _as_wishes(value):
    """The WISHES that value is, as tuples; Unfit() if it is none."""
    told = with_tuples(value, 4)
    if not isinstance(told, tuple) or not all([is_wish(own) for own in told]):
        raise Unfit()
    return told


def _row_text(word, numbers):
    """The row of word and number pieces."""
    return " ".join([word] + [piece_of(number) for number in numbers]) + "\n"


def _wheels_text(train):
    """The rows of the WHEELS of train."""
    return "".join([_row_text("wheel", wheel) for wheel in train])


def train_text(train):
    """The text that tells train."""
    told = as_train(train)
    return _row_text("ring", (len(told[0]),)) + _wheels_text(told)


def rungs_text(rungs):
    """The text that tells rungs."""
    return "".join([
        _row_text("rung", (places, steps)) + _wheels_text(train) for places, steps, train in _as_rungs(rungs)
    ])


def _wish_text(wish):
    """The row of wish."""
    word, turns, goal = wish
    told = ["wish"] + [piece_of(letter) for letter in word]
    told += ["turns"] + [fraction_piece(own) for own in turns]
    return " ".join(told + ["goal", fraction_piece(goal)]) + "\n"


def wishes_text(wishes):
    """The text that tells wishes."""
    return "".join([_wish_text(wish) for wish in _as_wishes(wishes)])


def _rows_of(text):
    """The list of the rows of text: pairs (line, list of pieces)."""
    found = []
    for piece, line in pieces(text):
        if found == [] or found[-1][0] != line:
            found.append((line, []))
        found[-1][1].append(piece)
    return found


def _some_rows_of(text):
    """As _rows_of; BadText(0) if there is no row."""
    found = _rows_of(text)
    if found == []:
        raise BadText(0)
    return found


def _numbers_behind(word, row):
    """The numbers of a row of word and number pieces, None if it is no such row."""
    numbers = tuple([number_of(piece) for piece in row[1:]])
    if row[0] != word or None in numbers:
        return None
    return numbers


def _wheel_in(row, places):
    """The WHEEL of so many places that a row tells, None if it tells none."""
    numbers = _numbers_behind("wheel", row)
    if numbers is None or len(numbers) != places or not is_wheel(numbers):
        return None
    return numbers


def _ring_in(row):
    """How many places the ring of a row has, None if it tells none."""
    numbers = _numbers_behind("ring", row)
    if numbers is None or len(numbers) != 1 or numbers[0] < 1:
        return None
    return numbers[0]


def read_train(text):
    """The TRAIN that text tells."""
    found = _some_rows_of(text)
    line, row = found[0]
    places = _ring_in(row)
    if places is None:
        raise BadText(line)
    train = []
    for line, row in found[1:]:
        wheel = _wheel_in(row, places)
        if wheel is None:
            raise BadText(line)
        train.append(wheel)
    if train == []:
        raise BadText(line)
    return tuple(train)


def _rung_in(row):
    """The pair (places, steps) of a row, None if it tells none."""
    numbers = _numbers_behind("rung", row)
    if numbers is None or len(numbers) != 2 or numbers[0] < 1:
        return None
    return numbers


def read_rungs(text):
    """The tuple of RUNGS that text tells."""
    rungs = []
    for line, row in _some_rows_of(text):
        told = _rung_in(row)
        if told is not None:
            rungs.append((told[0], told[1], ()))
            continue
        wheel = None if rungs == [] else _wheel_in(row, rungs[-1][0])
        if wheel is None:
            raise BadText(line)
        places, steps, train = rungs[-1]
        rungs[-1] = (places, steps, train + (wheel,))
    return tuple(rungs)


def _wish_in(row):
    """The WISH that a row tells, None if it tells none."""
    if row[0] != "wish" or "turns" not in row or "goal" not in row:
        return None
    middle = row.index("turns")
    end = row.index("goal")
    word = tuple([number_of(piece) for piece in row[1:middle]])
    turns = tuple([fraction_of(piece) for piece in row[middle + 1:end]])
    goals = [fraction_of(piece) for piece in row[end + 1:]]
    if len(goals) != 1:
        return None
    wish = (word, turns, goals[0])
    return wish if is_wish(wish) else None


def read_wishes(text):
    """The tuple of WISHES that text tells."""
    wishes = []
    for line, row in _rows_of(text):
        wish = _wish_in(row)
        if wish is None:
            raise BadText(line)
        wishes.append(wish)
    return tuple(wishes)
