"""Wheels to try, and the tests' own way of counting: by walks alone, number by number."""

import itertools
import math
import random
from fractions import Fraction


def small_wheels(places, low, high):
    """All WHEELS of so many places with a first number from low to high."""
    found = []
    for first in range(low, high + 1):
        for rest in itertools.combinations_with_replacement(range(first, first + places + 1), places - 1):
            found.append((first,) + rest)
    return found


SMALL = [wheel for places in (1, 2, 3, 4) for wheel in small_wheels(places, -places - 1, places + 1)]


def drawn_wheel(draw, places, size):
    """A WHEEL of so many places, its numbers by size to about size."""
    first = draw.randrange(-size, size - places + 1)
    return (first,) + tuple(sorted([first + draw.randrange(places + 1) for place in range(places - 1)]))


def drawn(draw, size=60):
    """A WHEEL on a drawn ring."""
    return drawn_wheel(draw, draw.randrange(1, 25), size)


def walked(wheel, number):
    """Where wheel leads number, round by round."""
    places, rounds = len(wheel), 0
    while number < 0:
        number, rounds = number + places, rounds - 1
    while number >= places:
        number, rounds = number - places, rounds + 1
    return wheel[number] + rounds * places


def led_at_once(wheel, number):
    """As walked, for numbers so great that round by round would take too long."""
    place = number % len(wheel)
    return wheel[place] + number - place


def told_by(places, where):
    """The WHEEL of so many places that leads each one where the function says."""
    return tuple([where(place) for place in range(places)])


def slow_power(wheel, beats):
    """The WHEEL beat by beat."""
    together = tuple(range(len(wheel)))
    for beat in range(beats):
        together = told_by(len(wheel), lambda place: walked(wheel, together[place]))
    return together


def beat_by_beat(wheel, number, beats):
    """Where number is after so few beats."""
    for beat in range(beats):
        number = led_at_once(wheel, number)
    return number


def slow_return(wheel):
    """The triple (place, beats, rounds), by its words: place by place, beat by beat."""
    places = len(wheel)
    for place in range(places):
        number = place
        for beats in range(1, places + 1):
            number = led_at_once(wheel, number)
            if number % places == place:
                return (place, beats, number // places)
    raise AssertionError("no place of this wheel comes back")


def slow_turning(wheel):
    """The turning as one of Python's fractions."""
    place, beats, rounds = slow_return(wheel)
    return Fraction(rounds, beats)


def pair(worth):
    """The pair of one of Python's fractions."""
    return (worth.numerator, worth.denominator)


def value(fraction):
    """One of Python's fractions, of a pair."""
    return Fraction(*fraction)


def steady(places, steps):
    """The SHIFT by steps."""
    return tuple(range(steps, steps + places))


def all_places(ring):
    """All PLACES on a ring."""
    return [
        places for many in range(1, ring + 1) for places in itertools.combinations(range(ring), many)
    ]


def drawn_places(draw, ring):
    """PLACES on a ring."""
    return tuple(sorted(draw.sample(range(ring), draw.randrange(1, ring + 1))))


def drawn_train(draw, places, many, size=60):
    """A TRAIN of so many WHEELS of so many places; some of them SHIFTS."""
    return tuple([
        steady(places, draw.randrange(-size, size)) if draw.randrange(5) == 0 else drawn_wheel(draw, places, size)
        for own in range(many)
    ])


def placed(places, ring, number):
    """The number-th of places, told on: step by step from the 0-th."""
    at, away = 0, 0
    while at < number:
        at += 1
        away += ring if at % len(places) == 0 else 0
    while at > number:
        away -= ring if at % len(places) == 0 else 0
        at -= 1
    return places[at % len(places)] + away


def last_placed(places, ring, number):
    """Which of places, told on, is the last one not above number: one after another."""
    at = (number // ring - 1) * len(places)
    while placed_at_once(places, ring, at + 1) <= number:
        at += 1
    return at


def placed_at_once(places, ring, number):
    """As placed, for numbers so great that step by step would take too long."""
    rounds, at = divmod(number, len(places))
    return rounds * ring + places[at]


def slow_together(train):
    """The WHEEL of a TRAIN, number by number."""
    found = []
    for number in range(len(train[0])):
        for wheel in reversed(train):
            number = led_at_once(wheel, number)
        found.append(number)
    return tuple(found)


def slow_value(turns, number):
    """The value by its words, with Python's fractions."""
    wholes = sum([math.floor(number * value(own)) for own in turns])
    return Fraction(wholes + len(turns) - 1, number)


def slow_common(turns):
    """The common bottom, number by number."""
    number = 1
    while any([number % below for above, below in turns]):
        number += 1
    return number


def slow_most(turns):
    """The greatest value up to twice the common bottom: more than are asked for."""
    return max([slow_value(turns, number) for number in range(1, 2 * slow_common(turns) + 1)])


def a_mix(seed, many=120):
    """Small wheels of all kinds, and drawn ones: SHIFTS, slips at one place and at many, numbers below 0."""
    draw = random.Random(seed)
    found = [wheel for wheel in SMALL if draw.randrange(4) == 0]
    found += [drawn(draw) for own in range(many)]
    found += [drawn(draw, 10 ** 6) for own in range(20)]
    for own in range(30):
        places = draw.randrange(1, 25)
        wheel = list(steady(places, draw.randrange(-50, 50)))
        found.append(tuple(wheel))
        if places > 1:
            at = draw.randrange(places - 1)
            wheel[at] = wheel[at + 1]
            found.append(tuple(wheel))
    return found
