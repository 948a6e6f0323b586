"""All functions at the bounds that the document states, and somewhat beyond: no error but those that it names."""

import unittest

from bothwheels import (
    backs, fractions, goals, judge, ladders, led, makers, most, rows, seen, sides, signs, stairs, teeth, texts, turnings, wheels,
    words,
)
from bothwheels.desk import Desk
from tests import test_interface
from tests.reckoning import steady

MILLION, BEATS = 10 ** 6, 10 ** 30

# Rings of 24 places, numbers to a million; and a ring of 30.
FLAT = (MILLION,) * 24
STEEP = (-MILLION,) * 12 + (-MILLION + 24,) * 12
SLIPPING = (-7, -7, -5, -4, -4, -2, -1, 0, 1, 2, 3, 5, 5, 5, 8, 9, 10, 11, 12, 12, 14, 15, 16, 17)
EVEN = steady(24, 23)
TWENTY_THREE = steady(24, 1)[:22] + (24, 24)
BEYOND = tuple([2 * (place // 2) + 5 for place in range(30)])
WHEELS = (FLAT, STEEP, SLIPPING, EVEN, TWENTY_THREE, BEYOND)
TRAIN = (SLIPPING, TWENTY_THREE, EVEN, STEEP, FLAT)
PLACES = (0, 3, 4, 9, 23)
ALL = tuple(range(24))

FRACTION, OTHER = (MILLION, 9999), (-MILLION + 1, 10 ** 4)
# Twelve, with a common bottom of 1800, that is below 2,000.
TURNS = ((99, 100), (-71, 72), (1, 90), (7, 60), (1, 50), (-3, 40), (1, 36), (5, 24), (13, 25), (17, 20), (MILLION, 9), (-MILLION, 1))
WORD = (0, 1, 2, 3, 4, 0, 1, 2)
RUNG = (24, -MILLION, TRAIN)
TEXT = texts.train_text(TRAIN)


def calls_of_wheels():
    """Calls of all functions of the files on wheels alone."""
    found = []
    for wheel in WHEELS:
        found += [(function, wheel) for function in (
            wheels.is_wheel, wheels.is_shift, wheels.slips_of, wheels.led_places, turnings.come_back, turnings.turning,
            turnings.own_places, turnings.own_step, sides.by_gains, sides.by_lags, backs.first_back, backs.last_back, backs.mirrored,
            seen.least_keeping, teeth.teeth,
        )]
        last = len(wheel) - 1
        found += [
            (wheels.leads, wheel, -MILLION), (wheels.power, wheel, BEATS), (wheels.finer, wheel, 60), (wheels.from_elsewhere, wheel, MILLION),
            (wheels.is_at_most, wheel, wheel), (wheels.led_from, wheel, -MILLION), (turnings.is_return, wheel, (0, BEATS, BEATS)),
            (turnings.orbit, wheel, last), (turnings.after, wheel, -MILLION, BEATS), (turnings.beats_to_own, wheel, last),
            (turnings.come_together, wheel, MILLION, -MILLION), (sides.gains, wheel, BEATS), (sides.can_gain, wheel, BEATS, BEATS),
            (sides.can_lag, wheel, -BEATS, BEATS), (sides.gainer, wheel, -BEATS * MILLION, 1), (sides.lagger, wheel, BEATS * MILLION, 1),
            (sides.is_gainer, wheel, -BEATS, BEATS, last), (sides.is_lagger, wheel, BEATS, BEATS, last), (sides.all_short, wheel, BEATS, BEATS),
            (sides.all_beyond, wheel, -BEATS, BEATS), (sides.by_walk, wheel, last, BEATS), (sides.side_of, wheel, OTHER),
            (backs.is_back_pair, wheel, wheel), (seen.seen, wheel, PLACES), (seen.strictly_seen, wheel, PLACES), (seen.seen_over, wheel, PLACES),
            (seen.left_behind, wheel, ALL), (seen.are_kept, wheel, ALL), (seen.kept_within, wheel, PLACES), (seen.keeps_turning, wheel, PLACES),
            (teeth.lesser, wheel, wheel), (teeth.greater, wheel, wheel), (teeth.behind_plan, wheel, ()), (teeth.turnings_along, wheel, ()),
            (teeth.teeth_between, wheel, steady(len(wheel), -MILLION)), (teeth.plan, wheel, wheel), (teeth.is_plan, wheel, wheel, ((0, 1),) * 3000),
            (makers.raised, wheel, (99 * MILLION + 1, 100)), (makers.lowered, wheel, (-99 * MILLION - 1, 100)),
            (makers.is_raised, wheel, (1, 100), (wheel, 1)), (makers.is_lowered, wheel, (1, 100), (wheel * 100, 100)),
            (goals.way_of, wheel, BEATS), (goals.first_at, wheel, -BEATS, BEATS), (goals.first_passed, wheel, -BEATS, wheel, BEATS),
            (goals.meeting, wheel, -BEATS, wheel, BEATS), (goals.meeting_place, wheel, BEATS, wheel, -BEATS), (goals.slowest, wheel, 10 ** 25),
            (goals.quickest, wheel, 10 ** 25), (led.is_led_by, wheel, PLACES, MILLION),
        ]
    return found


CALLS = calls_of_wheels() + [
    (signs.pieces, TEXT), (signs.text_of, signs.pieces(TEXT)), (signs.number_of, "9" * 40), (signs.number_of, "-" + "9" * 12),
    (signs.piece_of, 10 ** 12 - 1), (signs.fraction_of, "-999999999999/999999999998"), (signs.fraction_piece, FRACTION),
    (fractions.is_fraction, FRACTION), (fractions.fraction, MILLION, -10 ** 4), (fractions.added, FRACTION, OTHER), (fractions.less, FRACTION, OTHER),
    (fractions.negative, OTHER), (fractions.times, FRACTION, -MILLION), (fractions.compared, FRACTION, OTHER), (fractions.less_than, FRACTION, OTHER),
    (fractions.floor_of, OTHER), (fractions.ceiling_of, OTHER), (fractions.floor_times, OTHER, MILLION), (fractions.ceiling_times, OTHER, MILLION),
    (fractions.simplest, OTHER, FRACTION), (fractions.least_bottom_between, (1, 10 ** 4), (1, 9999)), (fractions.between, (1, 10 ** 4), (1, 2), 60),
    (fractions.common_bottom, TURNS),
    (wheels.is_train, TRAIN), (wheels.shift, 24, -MILLION), (wheels.steps_of, steady(24, MILLION)), (wheels.put_together, TRAIN),
    (backs.back_train, TRAIN), (backs.mirrored_train, TRAIN),
    (led.greatest_led, PLACES, MILLION, 24), (led.least_led, PLACES, -MILLION, 24), (led.led_by, led.least_led(PLACES, -MILLION, 24), PLACES),
    (led.told_on, PLACES, 24, MILLION), (led.last_at, PLACES, 24, -MILLION), (led.first_at_least, PLACES, 24, MILLION), (led.many_led, PLACES, MILLION, 24),
    (led.wheel_between, (0, 2, 3) + tuple(range(5, 24)), -MILLION, 24, 3),
    (seen.all_seen, TRAIN, PLACES), (seen.all_strictly_seen, TRAIN, PLACES), (seen.places_within, PLACES, 24, (0, 4)),
    (words.is_word, WORD), (words.letters_of, WORD), (words.counts_of, WORD), (words.word_wheel, TRAIN, WORD), (words.word_turning, TRAIN, WORD),
    (words.stops, TRAIN, WORD, -MILLION), (words.turned_word, WORD, -MILLION), (words.least_turned, WORD), (words.are_turned, WORD, WORD),
    (words.root_of, WORD), (words.repeated_word, WORD, 1000), (words.with_wheel, TRAIN, 4, EVEN), (words.added_turns, TRAIN, WORD), (words.beyond, TRAIN, WORD),
    (ladders.is_rung, RUNG), (ladders.first_rung, TRAIN), (ladders.next_rung, RUNG), (ladders.ladder, TRAIN), (ladders.is_ladder, TRAIN, (RUNG,)),
    (ladders.rung_word, RUNG), (ladders.rung_turning, RUNG), (ladders.end_of, (RUNG, (24, MILLION, (EVEN,) * 5))), (ladders.ring_of, ((24, MILLION, ()),)),
    (ladders.bound_of, TRAIN), (ladders.broken_at, TRAIN, (RUNG,) * 24),
    (most.value_at, TURNS, MILLION), (most.most, TURNS), (most.least, TURNS), (most.bottoms, TURNS), (most.is_between, TURNS, OTHER), (most.slack, TURNS),
    (makers.reached, TURNS), (makers.lowest, TURNS), (makers.is_reached, TURNS, TRAIN), (makers.is_lowest, TURNS, TRAIN),
    (rows.is_row, (0, 1) * 12), (rows.many_rows, (12, 12)), (rows.many_rows, (1,) * 24), (rows.rows, (22, 2)), (rows.rows, (33, 2)),
    (rows.led_train, (0, 1, 2) * 8, (MILLION, -MILLION, 0)), (rows.row_of, TRAIN), (rows.row_turning, WORD, (0, 1, 2, 3, 4) * 5, (MILLION,) * 5),
    (rows.most_of, (0, 1) * 4, ((MILLION, 99), (-MILLION, 1))), (rows.best_row, (0, 1) * 4, ((-MILLION, 1), (MILLION - 1, 100))),
    (rows.least_of, (0, 0, 1, 1, 0, 0, 1, 1), ((1, 2), (1, 33))), (rows.bar, (0,) * 8, ((1, 100),), FRACTION), (rows.is_bar, (0,) * 8, ((1, 100),), OTHER, ()),
    (texts.train_text, TRAIN), (texts.rungs_text, (RUNG,) * 24), (texts.wishes_text, ((tuple(range(12)), TURNS, FRACTION),)), (texts.read_train, TEXT),
    (texts.read_rungs, texts.rungs_text((RUNG,) * 24)), (texts.read_wishes, texts.wishes_text(((tuple(range(12)), TURNS, FRACTION),) * 50)),
    (texts.is_wish, (tuple(range(12)), TURNS, FRACTION)), (texts.is_rungs, (RUNG,) * 1000),
    (teeth.with_tooth, FLAT, (23, 1)), (teeth.row_wheel, (0,) * 50 + (23,) * 50, (MILLION - 1, 100), 24), (teeth.fewest, FLAT[:8], (6 * MILLION + 1, 6)),
    (teeth.fewest_plan, FLAT[:8], (6 * MILLION // 8 + 1, 6)), (teeth.is_fewest_plan, FLAT[:8], (6 * MILLION + 1, 6), ()),
    (stairs.can, (0, 1) * 4, ((MILLION, 7), (-MILLION, 1)), FRACTION), (stairs.most_bottoms, (0, 1) * 4, OTHER), (stairs.just_below, OTHER, MILLION),
    (stairs.least_beside, (0, 0, 0, 0, 0, 0, 1, 1), (MILLION, 1), 0, (-MILLION, 1)), (stairs.corners, (0, 1) * 4, (5, 1)),
    (stairs.is_corner, (0, 1) * 4, (5, 1), (FRACTION, OTHER)), (stairs.corner_paper, (0, 0, 1), (3, 2), ((1, 4), (1, 2))),
    (stairs.is_corner_paper, (0, 1) * 4, (5, 1), (FRACTION, OTHER), None), (goals.last_below, EVEN, -BEATS, BEATS),
]
for demand in (
    ("train", TRAIN, OTHER), ("most", TURNS, OTHER), ("most", TURNS, FRACTION), ("word", (0, 1) * 4, ((1, 99), (0, 1)), OTHER),
    ("teeth", EVEN, steady(24, 24), MILLION), ("train", TRAIN, (5 * MILLION, 1)),
):
    CALLS += [
        (judge.is_demand, demand), (judge.is_so, demand), (judge.paper_against, demand), (judge.is_paper_against, demand, (23, BEATS, -BEATS * MILLION)),
        (judge.reason_for, demand), (judge.is_reason_for, demand, (23, BEATS, BEATS * MILLION)), (judge.first_fallen, (demand,) * 5),
    ]


class Bounds(unittest.TestCase):
    def test_no_error(self):
        for function, *values in CALLS:
            with self.subTest(function=function.__name__, values=values):
                function(*values)

    def test_each_function_is_called(self):
        called = {(own[0].__module__.split(".")[1], own[0].__name__) for own in CALLS}
        named = {(module, name) for module, functions in test_interface.FUNCTIONS.items() for name in functions}
        self.assertEqual(named - called, set())

    def test_what_is_returned_may_be_greater_and_is_passed_in_again(self):
        other, many = makers.raised(EVEN, (99, 100))
        self.assertEqual((len(other), many), (2400, 100))
        self.assertIs(makers.is_raised(EVEN, (99, 100), (other, many)), True)
        self.assertEqual(turnings.turning(wheels.power(other, 10 ** 30)), (99 * 10 ** 28, 1))
        train = makers.reached(TURNS)
        self.assertIs(makers.is_reached(TURNS, train), True)
        self.assertEqual(texts.read_train(texts.train_text(train)), train)
        self.assertEqual(turnings.turning(wheels.put_together(train)), most.most(TURNS))
        self.assertEqual(len(rows.row_of(train)), sum([below for above, below in TURNS]))
        self.assertEqual(led.led_by(other, seen.least_keeping(other)), 99)

    def test_the_desk(self):
        desk = Desk()
        for k in range(300):
            self.assertEqual(desk.say(f"wheel {'abcdefghijkl'[:k % 12 + 1]} " + " ".join(["-999999"] * 24)), ("done",))
        self.assertEqual(len(desk.say("\n".join(["names"] * 1000))), 1000)
        self.assertEqual([desk.undo() for k in range(300)][-1], 0)
        self.assertEqual([desk.redo() for k in range(300)][-1], 12)


if __name__ == "__main__":
    unittest.main()
