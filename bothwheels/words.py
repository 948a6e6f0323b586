"""Words of trains: wheels put together as the letters of a word tell."""

from bothwheels.errors import NoLetter, Unfit
from bothwheels.fractions import added, less
from bothwheels.kinds import are_numbers, as_number, as_number_from, with_tuples
from bothwheels.turnings import turning
from bothwheels.wheels import as_train, as_wheel, led_to, put_together


def is_word(thing):
    """Whether thing is a WORD."""
    if not isinstance(thing, tuple) or thing == () or not are_numbers(thing):
        return False
    return sorted(set(thing)) == list(range(len(set(thing))))


def as_word(value):
    """The WORD that value is, as a tuple; Unfit() if it is none."""
    told = with_tuples(value, 1)
    if not is_word(told):
        raise Unfit()
    return told


def letters_of(word):
    """How many letters word has."""
    return max(as_word(word)) + 1


def counts_of(word):
    """How often each letter stands in word."""
    told = as_word(word)
    return tuple([told.count(letter) for letter in range(letters_of(told))])


def _spelled(train, word):
    """The WHEELS of train, as often and in the order as word tells."""
    wheels = as_train(train)
    letters = as_word(word)
    if len(wheels) != letters_of(letters):
        raise Unfit()
    return tuple([wheels[letter] for letter in letters])


def word_wheel(train, word):
    """The WHEEL of the WORD of train."""
    return put_together(_spelled(train, word))


def word_turning(train, word):
    """The TURNING of the WORD of train."""
    return turning(word_wheel(train, word))


def stops(train, word, number):
    """number, then where each letter leads it, the last one first."""
    spelled = _spelled(train, word)
    found = [as_number(number)]
    for wheel in reversed(spelled):
        found.append(led_to(wheel, found[-1]))
    return tuple(found)


def turned_word(word, number):
    """word begun number letters later."""
    told = as_word(word)
    start = as_number(number) % len(told)
    return told[start:] + told[:start]


def least_turned(word):
    """The least of all that word is, begun elsewhere."""
    told = as_word(word)
    return min([told[start:] + told[:start] for start in range(len(told))])


def are_turned(word, other):
    """Whether one is the other begun elsewhere."""
    least = least_turned(word)
    return least_turned(other) == least


def root_of(word):
    """The pair (the shortest WORD, how often it stands there) that make up word."""
    told = as_word(word)
    size = 1
    # The least number by which it is begun elsewhere and is the same divides its length.
    while turned_word(told, size) != told:
        size += 1
    return (told[:size], len(told) // size)


def repeated_word(word, many):
    """word so many times."""
    told = as_word(word)
    return told * as_number_from(many, 1)


def with_wheel(train, letter, wheel):
    """train, with wheel as this letter."""
    wheels = as_train(train)
    at = as_number_from(letter, 0)
    new = as_wheel(wheel)
    if len(new) != len(wheels[0]):
        raise Unfit()
    if at >= len(wheels):
        raise NoLetter(at)
    return wheels[:at] + (new,) + wheels[at + 1:]


def added_turns(train, word):
    """What the TURNINGS of the letters, each as often as it stands there, come to."""
    total = (0, 1)
    for wheel in _spelled(train, word):
        total = added(total, turning(wheel))
    return total


def beyond(train, word):
    """By what FRACTION the WORD turns more than its letters come to."""
    return less(word_turning(train, word), added_turns(train, word))
