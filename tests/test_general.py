"""The rules that hold for every function."""

import copy
import unittest

from bothwheels import (
    backs, fractions, goals, judge, ladders, led, makers, most, rows, seen, sides, signs, stairs, teeth, texts, turnings, wheels,
    words,
)
from bothwheels.desk import Desk
from bothwheels.errors import BadText, Broken, CanNot, NoLetter, NoPlace, NothingDone, TooMany, Unfit
from tests import test_interface
from tests.calls import CALLS, CLIMBED, FAST, LADDER, RUNG, UNFIT, UNFIT_AHEAD
from tests.calls_more import (
    BAR, BESIDE, BOTH, CORNER, CORNER_PAPER, FALLEN, GOAL, HALF, HIGH, HIGHER, LOW, LOWER, PAPERS, QUICK, REASONS, RUNGS, SLOW,
    STANDING, STEEP, THIRD, TURNED, WISHES,
)
from tests.examples import same
from tests.wrong import (
    NO_DEMANDS, NO_FRACTIONS, NO_NUMBERS, NO_PLANS, NO_RUNGS, NO_RUNGS_IN_A_ROW, NO_TRAINS, NO_WHEELS, NO_WISHES, NO_WORDS, NOTHINGS,
)


def with_lists(value, depth):
    """value with lists for its tuples, but only those so many levels deep; None: at every depth."""
    if not isinstance(value, (list, tuple)):
        return value
    further = None if depth is None else depth - 1
    inner = [with_lists(own, further) for own in value]
    return inner if depth is None or depth == 0 else type(value)(inner)


def with_tuples(value):
    """value with tuples for its lists at every depth."""
    if not isinstance(value, (list, tuple)):
        return value
    return tuple([with_tuples(own) for own in value])


def is_deep(value, levels=12):
    """Whether value is nested more levels deep, or holds itself."""
    if not isinstance(value, (list, tuple)):
        return False
    return levels == 0 or any([is_deep(own, levels - 1) for own in value])


def forms(value):
    """value with lists for tuples at one depth, at every depth, and with tuples for lists."""
    return [with_lists(value, 0), with_lists(value, 1), with_lists(value, None), with_tuples(value)]


# What these return is a list, as no tuple is named.
LISTED = ("pieces", "between", "rows", "turnings_along")


class Calls(unittest.TestCase):
    def test_each_function_is_called(self):
        called = {(function.__module__, function.__name__) for function, names, values in CALLS}
        for module, functions in test_interface.FUNCTIONS.items():
            for name in functions:
                self.assertIn(("bothwheels." + module, name), called)

    def test_by_names(self):
        for function, names, values in CALLS:
            with self.subTest(function=function.__name__, values=values):
                told = function(*copy.deepcopy(values))
                self.assertTrue(same(function(**dict(zip(names, values))), told))
                self.assertTrue(same(function(**dict(reversed(list(zip(names, values))))), told))

    def test_again(self):
        for function, names, values in CALLS:
            with self.subTest(function=function.__name__, values=values):
                self.assertTrue(same(function(*values), function(*values)))

    def test_lists_for_tuples_and_tuples_for_lists(self):
        for function, names, values in CALLS:
            told = function(*values)
            # For a parameter called thing a list is no tuple.
            tuples = [place for place, name in enumerate(names) if name != "thing"]
            for place in tuples:
                for form in forms(values[place]):
                    given = values[:place] + (form,) + values[place + 1:]
                    with self.subTest(function=function.__name__, given=given):
                        self.assertTrue(same(function(*given), told))
            with self.subTest(function=function.__name__, values=values):
                given = [with_lists(value, None) if place in tuples else value for place, value in enumerate(values)]
                self.assertTrue(same(function(*given), told))

    def test_arguments_stay_unchanged(self):
        for function, names, values in CALLS:
            for given in (list(values), [with_lists(value, None) for value in values]):
                before = copy.deepcopy(given)
                function(*given)
                with self.subTest(function=function.__name__, values=values):
                    self.assertTrue(same(given, before))

    def test_arguments_of_refused_calls_stay_unchanged(self):
        for function, values, place, wrong in UNFIT:
            for bad in wrong:
                if not isinstance(bad, (list, tuple)) or is_deep(bad):
                    continue
                given = [with_lists(value, None) for value in values]
                given[place] = with_lists(bad, None)
                before = copy.deepcopy(given)
                with self.subTest(function=function.__name__, given=before):
                    with self.assertRaises(Unfit):
                        function(*given)
                    self.assertTrue(same(given, before))

    def test_returned_lists_are_new(self):
        lists = 0
        for function, names, values in CALLS:
            told = function(*values)
            if isinstance(told, list):
                lists += 1
                before = list(told)
                told.append("mine")
                told.reverse()
                with self.subTest(function=function.__name__):
                    self.assertTrue(same(function(*values), before))
        self.assertGreater(lists, len(LISTED))

    def test_what_is_returned_holds_no_list(self):
        for function, names, values in CALLS:
            told = function(*[with_lists(value, None) for value in values])
            with self.subTest(function=function.__name__, values=values):
                self.assertEqual(isinstance(told, list), function.__name__ in LISTED)
                outer = tuple(told) if isinstance(told, list) else told
                self.assertTrue(same(with_tuples(outer), outer))

    def test_what_is_returned_may_be_passed_in_again(self):
        for function, names, values in CALLS:
            told = function(*[with_lists(value, None) for value in values])
            if isinstance(told, tuple) and function.__name__ in ("put_together", "power", "finer", "from_elsewhere"):
                self.assertEqual(wheels.leads(told, len(told)), told[0] + len(told))
            if isinstance(told, tuple) and function.__module__.endswith("fractions"):
                self.assertEqual(fractions.added(told, (0, 1)), told)


# Calls that are refused: (function, names, values, error, its attributes).
REFUSED = (
    (signs.pieces, ("text",), ("a\n\nb B",), BadText, {"line": 2}),
    (signs.text_of, ("pieces",), ([("a", -1)],), Unfit, {}),
    (fractions.fraction, ("above", "below"), (3, 0), Unfit, {}),
    (fractions.between, ("one", "other", "most"), ((0, 1), (600, 1), 2), TooMany, {}),
    (wheels.steps_of, ("wheel",), ((1, 1, 3),), CanNot, {}),
    (wheels.is_at_most, ("wheel", "other"), ((1, 1, 3), (1, 1)), Unfit, {}),
    (turnings.orbit, ("wheel", "place"), (FAST, 5), NoPlace, {"place": 5}),
    (turnings.beats_to_own, ("wheel", "place"), (FAST, -1), NoPlace, {"place": -1}),
    (sides.gainer, ("wheel", "rounds", "beats"), (FAST, 9, 2), CanNot, {}),
    (sides.by_walk, ("wheel", "place", "beats"), (FAST, 10 ** 30, 2), NoPlace, {"place": 10 ** 30}),
    (backs.is_back_pair, ("wheel", "other"), (FAST, (1, 0)), Unfit, {}),
    (led.led_by, ("wheel", "places"), ((2, 2, 3, 4, 5), (0, 2, 3)), CanNot, {}),
    (led.wheel_between, ("places", "number", "ring", "share"), ((0, 12), 1, 24, 0), TooMany, {}),
    (seen.seen, ("wheel", "places"), (FAST, (0, 5)), Unfit, {}),
    (words.with_wheel, ("train", "letter", "wheel"), (((1, 1), (0, 1)), 7, (1, 1)), NoLetter, {"letter": 7}),
    (words.word_wheel, ("train", "word"), (((1, 1), (0, 1)), (0,)), Unfit, {}),
    (ladders.next_rung, ("rung",), ((1, 0, ((0,),)),), CanNot, {}),
    (ladders.end_of, ("ladder",), (((3, 1, ((1, 3, 3),)),),), Unfit, {}),
    (most.most, ("turns",), (((1, 41), (1, 53)),), TooMany, {}),
    (makers.raised, ("wheel", "fraction"), ((1, 2, 3), (0, 1)), CanNot, {}),
    (makers.lowered, ("wheel", "fraction"), ((0, 2, 2), (1, 2)), CanNot, {}),
    (makers.lowest, ("turns",), (((1, 41), (1, 53)),), TooMany, {}),
    (rows.bar, ("word", "turns", "fraction"), ((0, 1), ((1, 2), (1, 2)), (3, 2)), CanNot, {}),
    (rows.rows, ("numbers",), ((3, 3, 3),), TooMany, {}),
    (rows.most_of, ("word", "turns"), ((0, 1), ((1, 2),)), Unfit, {}),
    (texts.read_train, ("text",), ("ring 3\n\nwheel 0 2",), BadText, {"line": 2}),
    (texts.read_rungs, ("text",), ("",), BadText, {"line": 0}),
    (texts.read_wishes, ("text",), ("# none\nwish 0 turns 1/2 goal",), BadText, {"line": 1}),
    (texts.rungs_text, ("rungs",), ((),), Unfit, {}),
    (teeth.with_tooth, ("wheel", "tooth"), (LOW, (1, 1)), CanNot, {}),
    (teeth.behind_plan, ("wheel", "plan"), (LOW, ((2, 1), (1, -1), (1, -1))), Broken, {"place": 2}),
    (teeth.turnings_along, ("wheel", "plan"), (LOW, ((9, 1),)), Broken, {"place": 0}),
    (teeth.plan, ("wheel", "other"), ((0,), (2001,)), TooMany, {}),
    (stairs.corner_paper, ("word", "fraction", "turns"), (STEEP, GOAL, (HALF, HALF)), CanNot, {}),
    (stairs.corners, ("word", "fraction"), ((0, 0, 0, 1, 1), GOAL), TooMany, {}),
    (stairs.least_beside, ("word", "fraction", "letter", "turn"), (STEEP, GOAL, 2, HALF), Unfit, {}),
    (goals.last_below, ("wheel", "place", "goal"), ((1, 1, 3), 2, 5), CanNot, {}),
    (goals.meeting, ("wheel", "place", "other", "far"), ((1, 2, 3, 5), 0, (1, 1, 3), 0), Unfit, {}),
    (judge.is_so, ("demand",), (("most", ((1, 41), (1, 53)), HALF),), TooMany, {}),
    (judge.reason_for, ("demand",), (("most", ((1, 2),), (2, 2)),), Unfit, {}),
    (Desk().say, ("text",), ("names\n",), BadText, {"line": 1}),
    (Desk().wheel, ("name",), ("none",), CanNot, {}),
    (Desk().undo, (), (), NothingDone, {}),
    (Desk().redo, (), (), NothingDone, {}),
)


class Refusals(unittest.TestCase):
    def check(self, error, kept, function, *values, **named):
        with self.assertRaises(error) as caught:
            function(*values, **named)
        self.assertIs(type(caught.exception), error)
        self.assertEqual(vars(caught.exception), kept)
        for worth in vars(caught.exception).values():
            self.assertIs(type(worth), int)

    def test_the_error_and_its_attributes(self):
        for function, names, values, error, kept in REFUSED:
            with self.subTest(function=function.__name__, values=values):
                self.check(error, kept, function, *values)
                self.check(error, kept, function, *values)

    def test_by_names_and_with_lists(self):
        for function, names, values, error, kept in REFUSED:
            with self.subTest(function=function.__name__, values=values):
                self.check(error, kept, function, **dict(zip(names, values)))
                self.check(error, kept, function, *[with_lists(value, None) for value in values])
                self.check(error, kept, function, **dict(zip(names, [with_lists(value, None) for value in values])))

    def test_each_file_is_there(self):
        files = {getattr(own[0], "__module__").split(".")[1] for own in REFUSED}
        self.assertEqual(files, set(test_interface.FUNCTIONS) | {"desk"})

    def test_each_error_is_there(self):
        self.assertEqual({own[3].__name__ for own in REFUSED}, set(test_interface.ERRORS))

    def test_arguments_stay_unchanged(self):
        for function, names, values, error, kept in REFUSED:
            given = [with_lists(value, None) for value in values]
            before = copy.deepcopy(given)
            with self.subTest(function=function.__name__, values=values):
                self.assertRaises(error, function, *given)
                self.assertTrue(same(given, before))


class WrongValues(unittest.TestCase):
    def test_the_calls_are_fine_but_for_them(self):
        for function, values, place, wrong in UNFIT:
            with self.subTest(function=function.__name__, values=values):
                function(*values)

    def test_each_such_argument_is_tried(self):
        tried = {(function, place) for function, values, place, wrong in UNFIT}
        capitals = ("one", "other", "fraction", "fractions", "wheel", "train", "pieces")
        early = ("bothwheels.signs", "bothwheels.fractions", "bothwheels.wheels")
        for function, names, values in CALLS:
            for place, name in enumerate(names):
                if name in capitals or function.__module__ not in early and name not in ("thing", "text"):
                    self.assertIn((function, place), tried)

    def test_unfit(self):
        for function, values, place, wrong in UNFIT + UNFIT_AHEAD:
            for bad in wrong:
                given = values[:place] + (bad,) + values[place + 1:]
                with self.subTest(function=function.__name__, place=place, bad=repr(bad)):
                    with self.assertRaises(Unfit) as caught:
                        function(*given)
                    self.assertIs(type(caught.exception), Unfit)

    def test_unfit_as_lists(self):
        for function, values, place, wrong in UNFIT:
            for bad in wrong:
                if isinstance(bad, tuple) and not is_deep(bad):
                    given = values[:place] + (with_lists(bad, None),) + values[place + 1:]
                    with self.subTest(function=function.__name__, place=place, bad=bad):
                        with self.assertRaises(Unfit):
                            function(*given)

    def test_unfit_by_name(self):
        names_of = {function: names for function, names, values in CALLS}
        for function, values, place, wrong in UNFIT:
            given = dict(zip(names_of[function], values))
            given[names_of[function][place]] = None
            with self.subTest(function=function.__name__, place=place), self.assertRaises(Unfit):
                function(**given)

    def test_all_arguments_wrong(self):
        for function, values, place, wrong in UNFIT:
            with self.subTest(function=function.__name__), self.assertRaises(Unfit):
                function(*[None for value in values])


class Things(unittest.TestCase):
    """A parameter called thing: True exactly for what is stated, whatever else it is."""

    JUDGES = (
        (fractions.is_fraction, ((1, 2), (0, 1), (-3, 2), (7, 1)), NO_FRACTIONS),
        (wheels.is_wheel, ((1, 1, 3), (5,), (-2, 0, 1), (0, 0, 0), (0, 0, 3)), NO_WHEELS),
        (wheels.is_train, (((1, 1, 3), (0, 2, 3)), ((5,),), ((0, 0), (0, 2))), NO_TRAINS),
        (words.is_word, ((0,), (0, 0), (1, 0), (2, 0, 1, 0), (0,) * 30, tuple(range(40))), NO_WORDS),
        (ladders.is_rung, (RUNG, (3, 1, ()), (1, -9, ((0,), (5,))), (7, 10 ** 9, ())), NO_RUNGS),
        (rows.is_row, ((0,), (0, 0), (1, 0), (2, 0, 1, 0), (0,) * 30, tuple(range(40))), NO_WORDS),
        (texts.is_wish, WISHES, NOTHINGS + NO_WISHES + [[[0], [[1, 2]], [1, 1]], ([0], ((1, 2),), (1, 1)), ((0,), [(1, 2)], (1, 1))]),
        (texts.is_rungs, (RUNGS, RUNGS[:1], ((3, 1, ()),) * 40), NO_RUNGS_IN_A_ROW + [(), [], list(RUNGS), ([2, 1, ()],)]),
        (judge.is_demand, STANDING + FALLEN, NO_DEMANDS + [list(own) for own in STANDING] + [
            ("train", ([0, 1],), (0, 1)), ("train", ((0, 1),), [0, 1]), ("most", [(1, 2)], (1, 1)), ("word", [0], ((1, 2),), (1, 1)),
            ("teeth", [0, 1], (0, 1), 0), ("teeth", (0, 1), [0, 1], 0),
        ]),
    )

    # Of these there is just one, or a few, for what stands ahead of thing.
    JUDGES_OF_ONE = (
        (turnings.is_return, (FAST,), ((1, 2, 1),), NO_RUNGS + [(1, 2), (True, 2, 1), (1, 2, True), (1.0, 2, 1), (1, 2, 1, 0)]),
        (turnings.is_return, ((1, 2, 3),), ((0, 3, 1),), [(False, 3, 1), (0, 3, True), (3, 3, 1), (0, 3, 1.0), (0, 6, 2)]),
        (sides.is_gainer, ((2, 2, 4, 5, 6, 6), 1, 3), (0, 2, 4), NO_NUMBERS + [1, 3, 5, 6, 8, -2, -4, -6, 10 ** 30, 2.0]),
        (sides.is_gainer, ((0, 0, 0), 0, 1), (0,), NO_NUMBERS + [1, 2, 3, -3, 10 ** 30, 0.0]),
        (sides.is_lagger, ((1, 1, 4, 4, 5), 0, 1), (1,), NO_NUMBERS + [0, 2, 3, 4, 5, 6, -4, 10 ** 30, 1.0]),
        (sides.is_lagger, (FAST, 1, 2), (1, 2, 3, 4), NO_NUMBERS + [0, 5, 6, -1, -4, 10 ** 30, 1.0, 3.0]),
        (ladders.is_ladder, (CLIMBED,), (LADDER,), NO_RUNGS_IN_A_ROW + [
            (), LADDER[:2], LADDER[1:], LADDER * 2, LADDER[::-1], (LADDER,), list(LADDER), LADDER + (None,),
            LADDER[:2] + ((True, 0, ((0,), (0,))),), LADDER[:2] + ((1, False, ((0,), (0,))),),
            LADDER[:2] + ((1, 0, ((0,), (False,))),), LADDER[:2] + ((1, 0, [(0,), (0,)]),),
            LADDER[:2] + ((1, 0, ((0,), (0,)), ()),), LADDER[:2] + ((1, 0, ((0,),)),), LADDER[:2] + (None,),
        ]),
        (makers.is_raised, (SLOW, HALF), ((QUICK, 2),), NOTHINGS + [
            (), (QUICK,), (QUICK, 1), (QUICK, 3), (QUICK, 0), (QUICK, -2), (QUICK, True), (QUICK, 2.0), (QUICK, None), (QUICK, (2,)),
            (QUICK, 2, 2), [QUICK, 2], (list(QUICK), 2), (2, QUICK), (QUICK[:5], 2), (QUICK + (8,), 2), (None, 2), ((), 0), ("abcdef", 2),
            ((True, 6, 7, 7, 7, 7), 2), ((1, 7, 6, 7, 7, 7), 2), (QUICK, 10 ** 30), (SLOW, 1), ((2, 3, 4, 5, 6, 7), 2),
        ]),
        (makers.is_raised, (SLOW, (0, 1)), ((SLOW, 1),), [(SLOW, True), (SLOW, 0), (SLOW, 2), ([0, 2, 2], 1), ((False, 2, 2), 1)]),
        (makers.is_lowered, (SLOW, (-1, 2)), (((-1, -1, -1, -1, -1, 0), 2),), NOTHINGS + [
            (), (SLOW, 1), ((-1, -1, -1, -1, -1, 0), 1), ((-1, -1, -1, -1, -1, 0), 2.0), [(-1, -1, -1, -1, -1, 0), 2],
            ([-1, -1, -1, -1, -1, 0], 2), ((-1, -1, -1, -1, -1, False), 2), ((-1, -1, -1, -1, -1), 2), (None, 2),
        ]),
        (makers.is_reached, (BOTH,), ((TURNED, BESIDE),), NO_TRAINS + [
            (BESIDE, TURNED), (TURNED,), (TURNED, BESIDE, BESIDE), [TURNED, BESIDE], (list(TURNED), BESIDE), ((1, 2), (0, 2)),
        ]),
        (makers.is_lowest, (((-1, 2), (-1, 3)),), ((LOWER, HIGHER),), NO_TRAINS + [
            (HIGHER, LOWER), (LOWER,), (LOWER, HIGHER, HIGHER), [LOWER, HIGHER], (LOWER, list(HIGHER)), ((1, 2), (0, 2)),
        ]),
        (rows.is_bar, ((0, 1), (HALF, HALF), (2, 1)), (BAR,), NO_RUNGS_IN_A_ROW + [
            (), BAR[:1], BAR[1:], BAR[::-1], BAR * 2, list(BAR), (BAR,), BAR[0], BAR + (None,), (BAR[0], list(BAR[1])), (BAR[0], BAR[1][0]),
            (BAR[0], ((0, 1, 0, 1), (False, 2, 3))), (BAR[0], ((0, True, 0, 1), (0, 2, 3))), (BAR[0], ((0, 1, 0, 1), [0, 2, 3])),
            (BAR[0], ((1, 0, 1, 0), (0, 2, 3))), (BAR[0], ((0, 1, 0, 1), (0, 2, 3), ())), (BAR[0], ((0, 1, 0, 1), (0, 4, 6))),
        ]),
        (teeth.is_plan, (LOW, HIGH), (((1, -1), (2, 1), (3, 1)), ((2, 1), (1, -1), (3, 1))), NO_PLANS + [
            (), ((1, -1), (2, 1)), ((2, 1), (3, 1), (1, -1), (1, 1)), [(1, -1), (2, 1), (3, 1)], ([1, -1], (2, 1), (3, 1)),
            ((1, -1), (2, 1), (3, True)), ((1, -1), (2, 1), None), ((1, 1), (2, 1), (3, 1)), ((1, -1), (2, 1), (7, 1)),
        ]),
        (teeth.is_fewest_plan, ((0, 0, 0), (0, 1)), ((),), NOTHINGS + [[], ((2, 1),), ((2, 1), (2, -1)), (None,), ((),)]),
        (teeth.is_fewest_plan, ((0, 0, 0), (1, 1)), (teeth.fewest_plan((0, 0, 0), (1, 1)),), NO_PLANS + [
            (), list(teeth.fewest_plan((0, 0, 0), (1, 1))), teeth.fewest_plan((0, 0, 0), (1, 1)) + ((2, 1),), ((2, 1),) * 9, ((2, 1),) * 3,
        ]),
        (stairs.is_corner, (STEEP, GOAL), (CORNER, (HALF, (0, 1))), NOTHINGS + [
            (), (HALF,), (HALF, HALF), ((0, 1), HALF), list(CORNER), ([1, 4], HALF), (HALF, [0, 1]), (HALF, (False, 1)), (HALF, (0, True)),
            CORNER + (HALF,), ((1, 4), (2, 4)), (HALF, (0, 2)), ((2, 8), HALF), (HALF, 0), (HALF, None), ((1, 5), HALF), ((5, 4), HALF),
            ((1, 4), (3, 2)), ((10 ** 30, 10 ** 30 + 1), HALF), HALF, (CORNER,),
        ]),
        (stairs.is_corner_paper, (STEEP, GOAL, CORNER), (CORNER_PAPER, ((0, 1, 0, 0, 1, 0),) + CORNER_PAPER[1:]), NOTHINGS + [
            (), CORNER_PAPER[:2], CORNER_PAPER + ((),), list(CORNER_PAPER), CORNER_PAPER[::-1], CORNER_PAPER[:1] + CORNER_PAPER[:0:-1],
            (list(CORNER_PAPER[0]),) + CORNER_PAPER[1:], (None,) + CORNER_PAPER[1:], (CORNER_PAPER[0], None, CORNER_PAPER[2]),
            (CORNER_PAPER[0], CORNER_PAPER[1], ()), ((0, 0, 0, 1, 1),) + CORNER_PAPER[1:], ((0,) * 6,) + CORNER_PAPER[1:],
            ((0, 0, True, 0, 0, 1),) + CORNER_PAPER[1:], ((0, 0, 0, 0, 1, 1),) + CORNER_PAPER[1:], (CORNER_PAPER[0], list(CORNER_PAPER[1]), CORNER_PAPER[2]),
        ]),
    ) + tuple([
        (judge.is_paper_against, (demand,), (paper,), NOTHINGS + [(), [paper], list(paper), (paper,), reason[:-1]])
        for demand, paper, reason in zip(FALLEN, PAPERS, REASONS)
    ]) + tuple([
        (judge.is_reason_for, (demand,), (reason,), NOTHINGS + [[reason], list(reason), (reason,), paper])
        for demand, paper, reason in zip(STANDING, PAPERS, REASONS)
    ])

    def deep(self):
        """Values nested up to twelve levels deep."""
        found = []
        for inner in (1, True, None, "a", (1, 2), [1, 2], (1, 1, 3), ()):
            for level in range(1, 12):
                inner = (inner,) if level % 2 else [inner, inner]
                if level > 2:
                    found.append(inner)
        return found

    def test_what_is(self):
        for judge, good, bad in self.JUDGES:
            for thing in good:
                with self.subTest(judge=judge.__name__, thing=thing):
                    self.assertIs(judge(thing), True)
                    self.assertIs(judge(thing=thing), True)

    def test_what_is_not(self):
        for judge, good, bad in self.JUDGES:
            for thing in bad + self.deep():
                with self.subTest(judge=judge.__name__, thing=repr(thing)):
                    self.assertIs(judge(thing), False)

    def test_of_one(self):
        for judge, ahead, good, bad in self.JUDGES_OF_ONE:
            for thing in good:
                self.assertIs(judge(*ahead, thing), True, (judge, thing))
                self.assertIs(judge(*ahead, thing=thing), True, (judge, thing))
            for thing in bad + self.deep():
                if not (type(thing) is int and thing in good):
                    with self.subTest(judge=judge.__name__, thing=repr(thing)):
                        self.assertIs(judge(*ahead, thing), False)

    def test_the_judges_above_are_all(self):
        judged = {own[0] for own in self.JUDGES + self.JUDGES_OF_ONE}
        self.assertEqual(judged, {function for function, names, values in CALLS if "thing" in names})

    def test_whatever_thing_is_the_others_are_refused(self):
        for function, values, place, wrong in UNFIT:
            if function in [own[0] for own in self.JUDGES_OF_ONE]:
                for thing in (None, (), [], 1, True, "a", ((1,), [2]), values[-1]):
                    given = values[:place] + (None,) + values[place + 1:-1] + (thing,)
                    self.assertRaises(Unfit, function, *given)

    def test_a_list_is_no_tuple(self):
        for judge, good, bad in self.JUDGES:
            for thing in good:
                for form in (with_lists(thing, 0), with_lists(thing, None)):
                    with self.subTest(judge=judge.__name__, thing=form):
                        self.assertIs(judge(form), False)
        self.assertIs(wheels.is_train(([1, 1, 3], (0, 2, 3))), False)
        self.assertIs(wheels.is_train(((1, 1, 3), [0, 2, 3])), False)

    def test_a_list_within_a_tuple_is_no_tuple(self):
        self.assertIs(ladders.is_rung((3, 1, [])), False)
        self.assertIs(ladders.is_rung((3, 1, ([1, 1, 3],))), False)
        self.assertIs(ladders.is_rung((3, 1, [(1, 1, 3)])), False)
        for depth in range(4):
            self.assertIs(ladders.is_ladder(CLIMBED, with_lists(LADDER, depth)), False)

    def test_true_is_no_number(self):
        self.assertIs(fractions.is_fraction((True, 1)), False)
        self.assertIs(fractions.is_fraction((1, True)), False)
        self.assertIs(fractions.is_fraction((False, 1)), False)
        self.assertIs(wheels.is_wheel((True, True)), False)
        self.assertIs(wheels.is_wheel((0, True, 2)), False)
        self.assertIs(wheels.is_train(((0, True),)), False)
        self.assertIs(wheels.is_train(((1, 1), (False, True))), False)

    def test_beyond_all_bounds(self):
        great = 10 ** 400
        self.assertIs(fractions.is_fraction((great, great + 1)), True)
        self.assertIs(fractions.is_fraction((-great, great + 1)), True)
        self.assertIs(fractions.is_fraction((great, 2 * great)), False)
        self.assertIs(wheels.is_wheel((great, great, great + 3)), True)
        self.assertIs(wheels.is_wheel((great, great, great + 4)), False)
        self.assertIs(wheels.is_wheel(tuple(range(5000))), True)
        self.assertIs(wheels.is_wheel(tuple(range(5000)) + (4998,)), False)
        self.assertIs(wheels.is_train(((0, 1, 2),) * 3000), True)
        self.assertIs(wheels.is_train(((0, 1, 2),) * 3000 + ((0, 1),)), False)
        self.assertIs(fractions.is_fraction((1,) * 5000), False)
        self.assertIs(rows.is_row((0, 1) * 3000), True)
        self.assertIs(rows.is_row((0, 2) * 3000), False)
        self.assertIs(texts.is_wish(((0, 1) * 3000, ((great, 1), (1, great)), (-great, 7))), True)
        self.assertIs(texts.is_wish(((0, 1) * 3000, ((great, 1), (2, 2 * great)), (-great, 7))), False)
        self.assertIs(texts.is_rungs(((great, great, ()), (2, -great, ((great, great + 1),))) * 1000), True)
        self.assertIs(texts.is_rungs(((great, great, ()), (2, -great, ((great, great + 3),))) * 1000), False)
        self.assertIs(judge.is_demand(("teeth", (great,), (-great,), great)), True)
        self.assertIs(judge.is_demand(("teeth", (great,), (-great,), -great)), False)
        self.assertIs(judge.is_demand(("most", ((1, great),) * 100, (great, 1))), True)
        self.assertIs(judge.is_demand(("train", (tuple(range(3000)),) * 10, (1, 1))), True)

    def test_great_things_beside_others(self):
        great = 10 ** 400
        self.assertIs(judge.is_paper_against(STANDING[0], (0, great, great)), False)
        self.assertIs(judge.is_paper_against(FALLEN[0], (2, great, 0)), True)
        self.assertIs(judge.is_paper_against(FALLEN[0], (2, great, 1)), False)
        self.assertIs(judge.is_reason_for(STANDING[0], (1, great, 0)), True)
        self.assertIs(judge.is_reason_for(STANDING[0], (2, great, 0)), False)
        self.assertIs(judge.is_reason_for(STANDING[0], (2, great, -great)), False)
        self.assertIs(judge.is_reason_for(STANDING[3], ((1, 1),) * 5000), False)
        self.assertIs(makers.is_raised(SLOW, HALF, (QUICK, great)), False)
        self.assertIs(makers.is_raised(SLOW, HALF, ((great,) * 6, 2)), False)
        self.assertIs(makers.is_reached(((great, 1),), ((great,),)), True)
        self.assertIs(makers.is_reached(BOTH, ((great,),) * 2), False)
        self.assertIs(teeth.is_plan(LOW, HIGH, ((great, 1), (1, 1), (1, 1))), False)
        self.assertIs(teeth.is_plan(LOW, HIGH, ((1, 1), (1, -1)) * 3000), False)
        self.assertIs(stairs.is_corner(STEEP, GOAL, ((1, great), (1, 2))), False)
        self.assertIs(stairs.is_corner_paper(STEEP, GOAL, CORNER, ((0, 1) * 3000, (), ())), False)
        self.assertIs(turnings.is_return(FAST, (great, great, great)), False)
        self.assertIs(sides.is_gainer(FAST, 1, 2, great), False)


if __name__ == "__main__":
    unittest.main()
