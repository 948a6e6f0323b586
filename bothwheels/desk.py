"""The desk: wheels by names, worked by lines of text."""

from bothwheels.errors import BadText, CanNot, NothingDone, TooMany
from bothwheels.ladders import end_of, ladder
from bothwheels.most import most
from bothwheels.signs import number_of
from bothwheels.teeth import put_tooth
from bothwheels.turnings import turning
from bothwheels.wheels import is_train, is_wheel, put_together

NAME_SIGNS = "abcdefghijklmnopqrstuvwxyz"
MOST_SIGNS = 12
MOST_NUMBERS = 24
MOST_NAMES = 5
GREATEST_NUMBER = 999999
WAYS = {"more": 1, "less": -1}


def _is_name(word):
    """Whether word is a NAME."""
    return 1 <= len(word) <= MOST_SIGNS and all([sign in NAME_SIGNS for sign in word])


def _are_names(words):
    """Whether all of words are NAMES."""
    return all([_is_name(word) for word in words])


def _is_number_word(word):
    """Whether word is a number word: of 1 to 6 figures."""
    number = number_of(word)
    return number is not None and abs(number) <= GREATEST_NUMBER


def _is_wheel_line(words):
    """Whether words, behind the first one, are a NAME and numbers."""
    if not 3 <= len(words) <= 2 + MOST_NUMBERS or not _is_name(words[1]):
        return False
    return all([_is_number_word(word) for word in words[2:]])


def _is_tooth_line(words):
    """Whether words, behind the first one, are a NAME, a number, and a way."""
    return len(words) == 4 and _is_name(words[1]) and _is_number_word(words[2]) and words[3] in WAYS


def _is_one_line(words):
    """Whether words, behind the first one, are a NAME."""
    return len(words) == 2 and _is_name(words[1])


def _are_some_line(words):
    """Whether words, behind the first one, are some NAMES."""
    return 2 <= len(words) <= 1 + MOST_NAMES and _are_names(words[1:])


def _is_names_line(words):
    """Whether there is no word behind the first one."""
    return len(words) == 1


LINES = {
    "wheel": _is_wheel_line,
    "drop": _is_one_line,
    "tooth": _is_tooth_line,
    "turn": _is_one_line,
    "train": _are_some_line,
    "end": _are_some_line,
    "most": _are_some_line,
    "names": _is_names_line,
}


def _words_of(text):
    """The list of the lines of text, each the list of its words; BadText(line) for the first one that is none."""
    found = []
    for line, row in enumerate(text.split("\n")):
        words = row.split(" ")
        if words[0] not in LINES:
            raise BadText(line)
        check = LINES[words[0]]
        if not check(words):
            raise BadText(line)
        found.append(words)
    return found


def _fraction_text(fraction):
    """FRACTION as it is answered."""
    above, below = fraction
    return f"{above}/{below}"


def _put_wheel(wheels, words):
    """Does a line wheel, in wheels, by name; the answer to it."""
    wheel = tuple([number_of(word) for word in words[2:]])
    if not is_wheel(wheel):
        return "no wheel"
    wheels[words[1]] = wheel
    return "done"


def _drop(wheels, words):
    """Does a line drop, in wheels, by name; the answer to it."""
    if words[1] not in wheels:
        return "no name"
    del wheels[words[1]]
    return "done"


def _put_tooth(wheels, words):
    """Does a line tooth, in wheels, by name; the answer to it."""
    if words[1] not in wheels:
        return "no name"
    behind = put_tooth(wheels[words[1]], (number_of(words[2]), WAYS[words[3]]))
    if behind is None:
        return "no tooth"
    wheels[words[1]] = behind
    return "done"


def _turn(wheels, words):
    """The answer to a line turn."""
    if words[1] not in wheels:
        return "no name"
    return _fraction_text(turning(wheels[words[1]]))


def _named(wheels, words):
    """The TRAIN of the WHEELS that stand behind the first of words, None if one of them stands for nothing."""
    if not all([name in wheels for name in words[1:]]):
        return None
    return tuple([wheels[name] for name in words[1:]])


def _refusal(train):
    """The answer to a line with the WHEELS train, or None, where a TRAIN must be; None if it is one."""
    if train is None:
        return "no name"
    return None if is_train(train) else "rings"


def _train(wheels, words):
    """The answer to a line train."""
    train = _named(wheels, words)
    refusal = _refusal(train)
    return _fraction_text(turning(put_together(train))) if refusal is None else refusal


def _end(wheels, words):
    """The answer to a line end."""
    train = _named(wheels, words)
    refusal = _refusal(train)
    return _fraction_text(end_of(ladder(train))) if refusal is None else refusal


def _most(wheels, words):
    """The answer to a line most."""
    train = _named(wheels, words)
    if train is None:
        return "no name"
    try:
        return _fraction_text(most([turning(wheel) for wheel in train]))
    except TooMany:
        return "many"


def _names(wheels, words):
    """The answer to a line names."""
    return ", ".join(sorted(wheels)) if wheels else "none"


ANSWERS = {
    "wheel": _put_wheel,
    "drop": _drop,
    "tooth": _put_tooth,
    "turn": _turn,
    "train": _train,
    "end": _end,
    "most": _most,
    "names": _names,
}


def _answer(wheels, words):
    """The answer to a line; what it does is done in wheels, by name."""
    act = ANSWERS[words[0]]
    return act(wheels, words)


class Desk:
    """WHEELS by NAMES."""

    def __init__(self):
        self._wheels = {}
        # The WHEELS by NAMES as they were ahead of each say that can be taken
        # back, and behind each that can be done once more. None is changed again.
        self._past = []
        self._ahead = []

    def say(self, text):
        """The answers to the lines of text; BadText(line) for the first one that is none."""
        lines = _words_of(text)
        wheels = dict(self._wheels)
        answers = tuple([_answer(wheels, words) for words in lines])
        if "done" in answers:
            self._past.append(self._wheels)
            self._ahead.clear()
            self._wheels = wheels
        return answers

    def names(self):
        """The set of the NAMES."""
        return tuple(sorted(self._wheels))

    def wheel(self, name):
        """The WHEEL for which name stands; CanNot() if it stands for nothing."""
        if not isinstance(name, str) or name not in self._wheels:
            raise CanNot()
        return self._wheels[name]

    def undo(self):
        """Takes back the last say that did something; how many NAMES there are then."""
        if self._past == []:
            raise NothingDone()
        self._ahead.append(self._wheels)
        self._wheels = self._past.pop()
        return len(self._wheels)

    def redo(self):
        """Does once more the last say that undo took back; how many NAMES there are then."""
        if self._ahead == []:
            raise NothingDone()
        self._past.append(self._wheels)
        self._wheels = self._ahead.pop()
        return len(self._wheels)

    def twin(self):
        """Another Desk like it, with all that could be taken back, and done once more."""
        other = Desk()
        other._wheels = self._wheels
        other._past = list(self._past)
        other._ahead = list(self._ahead)
        return other

    def __eq__(self, other):
        return isinstance(other, Desk) and self._wheels == other._wheels
