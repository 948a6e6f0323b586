"""The tests' own way of counting rows of letters, and what turns in a word by the most."""

import functools
import itertools

from tests.reckoning import placed_at_once, slow_return, slow_together, slow_turning, told_by


def letters_as_often(counts):
    """The letters in order, each as often as counts tell."""
    return tuple([letter for letter, count in enumerate(counts) for k in range(count)])


def all_turned(row):
    """All that row is, begun elsewhere."""
    return [row[at:] + row[:at] for at in range(len(row))]


@functools.lru_cache(maxsize=None)
def all_rows(counts):
    """All ROWS with each letter as often as counts tell, turned ones apart, ascending."""
    return tuple(sorted(set(itertools.permutations(letters_as_often(counts)))))


@functools.lru_cache(maxsize=None)
def least_rows(counts):
    """Those of them that are the least of their turned ones."""
    return tuple([row for row in all_rows(counts) if row == min(all_turned(row))])


def slow_greatest(places, number, ring):
    """The WHEEL that leads z as the first of places at or behind it, so many of them on."""
    def where(z):
        at = (z // ring - 1) * len(places)
        while placed_at_once(places, ring, at) < z:
            at += 1
        return placed_at_once(places, ring, at + number)
    return told_by(ring, where)


def slow_led(row, numbers):
    """The TRAIN led by numbers on row."""
    return tuple([
        slow_greatest(tuple([at for at, own in enumerate(row) if own == letter]), number, len(row))
        for letter, number in enumerate(numbers)
    ])


def in_word(train, word):
    """The WHEEL of the word of train."""
    return slow_together(tuple([train[letter] for letter in word]))


@functools.lru_cache(maxsize=None)
def on_rows(word, turns):
    """For each of the least ROWS of the bottoms a pair: the ROW, the return of the word on it."""
    tops = tuple([above for above, below in turns])
    counts = tuple([below for above, below in turns])
    return tuple([(row, slow_return(in_word(slow_led(row, tops), word))) for row in least_rows(counts)])


def slow_row_turning(word, row, numbers):
    return slow_turning(in_word(slow_led(row, numbers), word))


@functools.lru_cache(maxsize=None)
def slow_most_of(word, turns):
    """The most on all ROWS, turned ones too, as one of Python's fractions."""
    tops = tuple([above for above, below in turns])
    counts = tuple([below for above, below in turns])
    return max([slow_row_turning(word, row, tops) for row in all_rows(counts)])
