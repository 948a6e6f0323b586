"""Calls of each function, and wrong values for its arguments, for the rules that hold for all."""

from bothwheels import fractions, signs, wheels

WHEEL, OTHER = (1, 1, 3), (0, 2, 3)
HALF, THIRD = (1, 2), (1, 3)

# Each function with some arguments that are as described: (function, names, values).
CALLS = [
    (signs.pieces, ("text",), ("a 1\n# no\n2/3",)),
    (signs.text_of, ("pieces",), ([("a", 0), ("b", 0), ("c", 4)],)),
    (signs.text_of, ("pieces",), ([],)),
    (signs.number_of, ("piece",), ("-12",)),
    (signs.number_of, ("piece",), ("-0",)),
    (signs.piece_of, ("number",), (-7,)),
    (signs.fraction_of, ("piece",), ("-3/2",)),
    (signs.fraction_piece, ("fraction",), ((-3, 2),)),
    (fractions.is_fraction, ("thing",), ((1, 2),)),
    (fractions.fraction, ("above", "below"), (6, -4)),
    (fractions.added, ("one", "other"), (HALF, THIRD)),
    (fractions.less, ("one", "other"), (HALF, THIRD)),
    (fractions.negative, ("one",), (HALF,)),
    (fractions.times, ("one", "number"), (HALF, -6)),
    (fractions.compared, ("one", "other"), (HALF, THIRD)),
    (fractions.less_than, ("one", "other"), (HALF, THIRD)),
    (fractions.floor_of, ("one",), ((-7, 2),)),
    (fractions.ceiling_of, ("one",), ((-7, 2),)),
    (fractions.floor_times, ("one", "number"), ((-7, 2), 3)),
    (fractions.ceiling_times, ("one", "number"), ((-7, 2), 3)),
    (fractions.simplest, ("one", "other"), ((5, 7), (7, 9))),
    (fractions.simplest, ("one", "other"), ((4, 9), (4, 9))),
    (fractions.simplest, ("one", "other"), ((-4, 9), (-1, 9))),
    (fractions.least_bottom_between, ("one", "other"), (THIRD, HALF)),
    (fractions.between, ("one", "other", "most"), (THIRD, HALF, 9)),
    (fractions.between, ("one", "other", "most"), (HALF, THIRD, 9)),
    (fractions.common_bottom, ("fractions",), ((HALF, THIRD),)),
    (fractions.common_bottom, ("fractions",), ((),)),
    (wheels.is_wheel, ("thing",), (WHEEL,)),
    (wheels.is_train, ("thing",), ((WHEEL, OTHER),)),
    (wheels.leads, ("wheel", "number"), (WHEEL, -5)),
    (wheels.shift, ("places", "steps"), (3, -4)),
    (wheels.is_shift, ("wheel",), (WHEEL,)),
    (wheels.steps_of, ("wheel",), ((4, 5, 6),)),
    (wheels.put_together, ("train",), ((WHEEL, OTHER),)),
    (wheels.put_together, ("train",), ((WHEEL,),)),
    (wheels.power, ("wheel", "beats"), (WHEEL, 5)),
    (wheels.power, ("wheel", "beats"), (WHEEL, 1)),
    (wheels.finer, ("wheel", "many"), (WHEEL, 2)),
    (wheels.finer, ("wheel", "many"), (WHEEL, 1)),
    (wheels.from_elsewhere, ("wheel", "number"), (WHEEL, -2)),
    (wheels.from_elsewhere, ("wheel", "number"), (WHEEL, 0)),
    (wheels.is_at_most, ("wheel", "other"), (WHEEL, OTHER)),
    (wheels.slips_of, ("wheel",), (WHEEL,)),
    (wheels.led_places, ("wheel",), (WHEEL,)),
    (wheels.led_from, ("wheel", "number"), (WHEEL, 1)),
]


class Strange:
    """An object that is equal to whatever it is asked about."""

    def __eq__(self, other):
        return True

    def __len__(self):
        return 2

    def __getitem__(self, at):
        return 1

    def __iter__(self):
        return iter((1, 2))


ROUND = [1, 2]
ROUND.append(ROUND)

# What is no number, no tuple and no list, whatever is asked for; and what holds itself.
NOTHINGS = [
    None, True, False, 0, 1, -5, 1.5, float("nan"), "", "a", "12", "(1, 2)", b"ab", {}, {0: 1, 1: 2}, {1, 2},
    range(1, 3), Strange(), object(), int, len, ROUND, (x for x in (1, 2)),
]

NO_FRACTIONS = NOTHINGS + [
    (), [], (1,), (1, 2, 3), (2, 4), [2, 4], (1, 0), (0, 2), (0, 0), (1, -2), (-1, -1), (3, -1), (6, 3),
    (1, True), (True, 2), (False, 1), (1, None), (None, 1), ("1", 2), (1, "2"), (1.0, 2), (1, 2.0),
    ((1, 2),), ((1, 2), 1), ((1,), (2,)), ([1], [2]), (1, (2,)),
]

NO_WHEELS = NOTHINGS + [
    (), [], (3, 2), [3, 2], (0, 0, 4), (0, 3), (1, 0), (-2, -3), (0, 2, 1), (-5, -2), (0, 5, 2),
    (True,), (0, True), (False, 1), (None,), (1, None, 2), ("1",), ("1", "2"), (1.0,), (0, 1.5),
    ((1,),), ([1],), ((1, 1, 3),), ((1, 1, 3), (0, 2, 3)), (1, (2,), 3), (0, 1, [2]),
]

NO_TRAINS = NOTHINGS + [
    (), [], ((),), [[]], (1, 1, 3), [1, 1, 3], ((1, 1, 3), (1, 1)), ((1, 1), (1, 1, 3)), ((1, 1), (1, 0)), ((1, 0),),
    ((1, 1), ()), ((1, 1), None), ((1, 1), True), (None,), ("ab",), ((1, 1), "ab"), ((True, 1),), ((1, 1), (0, True)),
    (((1, 1),),), [[[1, 1]]], ((1, 1), 1), ((0, 1, 2), (0, 1, 4)),
]

# A tuple of FRACTIONS may be ().
NO_FRACTIONS_IN_A_ROW = NOTHINGS + [
    (1, 2), [1, 2], ((),), ((1, 2), (2, 4)), ((2, 4), (1, 2)), ((1, 2), None), ((1, 2), True), (True,), ("ab",),
    ((1, True),), (((1, 2),),), ((1, 0),), ((1, 2), (1, -2)), ((1, 2, 3),),
]

NO_PIECES = NOTHINGS + [
    ("a", 0), ["a", 0], [()], [("a",)], [("a", 0, 0)], [("a", -1)], [("a", 1), ("b", 0)], [("a", 3), ("b", 3), ("c", 2)],
    [("", 0)], [("a b", 0)], [("A", 0)], [("a#", 0)], [("#", 0)], [("a\n", 0)], [(" a", 0)], [("a.b", 0)], [("_", 0)],
    [("a", True)], [("a", False)], [("a", None)], [("a", "0")], [("a", 0.0)], [(0, "a")], [(None, 0)], [(1, 0)],
    [("a", 0), None], [("a", 0), "b0"], [("a", 0), True], ["a0"], [(b"a", 0)], [(("a",), 0)], [("a", (0,))],
    [("a", 0), ("b", 1), ("B", 1)], [("\xe9", 0)], [("\u0663", 0)], [("a", 0), ("b", 5), ("c", 4)],
]

# For each argument that the document tells by a name in capitals: a call that is fine
# but for it, the number of the argument, and values that it must not be.
UNFIT = [
    (signs.text_of, ([("a", 0)],), 0, NO_PIECES),
    (signs.fraction_piece, (HALF,), 0, NO_FRACTIONS),
    (fractions.added, (HALF, THIRD), 0, NO_FRACTIONS),
    (fractions.added, (HALF, THIRD), 1, NO_FRACTIONS),
    (fractions.less, (HALF, THIRD), 0, NO_FRACTIONS),
    (fractions.less, (HALF, THIRD), 1, NO_FRACTIONS),
    (fractions.negative, (HALF,), 0, NO_FRACTIONS),
    (fractions.times, (HALF, 3), 0, NO_FRACTIONS),
    (fractions.compared, (HALF, THIRD), 0, NO_FRACTIONS),
    (fractions.compared, (HALF, THIRD), 1, NO_FRACTIONS),
    (fractions.less_than, (HALF, THIRD), 0, NO_FRACTIONS),
    (fractions.less_than, (HALF, THIRD), 1, NO_FRACTIONS),
    (fractions.floor_of, (HALF,), 0, NO_FRACTIONS),
    (fractions.ceiling_of, (HALF,), 0, NO_FRACTIONS),
    (fractions.floor_times, (HALF, 3), 0, NO_FRACTIONS),
    (fractions.ceiling_times, (HALF, 3), 0, NO_FRACTIONS),
    (fractions.simplest, (THIRD, HALF), 0, NO_FRACTIONS),
    (fractions.simplest, (THIRD, HALF), 1, NO_FRACTIONS),
    (fractions.least_bottom_between, (THIRD, HALF), 0, NO_FRACTIONS),
    (fractions.least_bottom_between, (THIRD, HALF), 1, NO_FRACTIONS),
    (fractions.between, (THIRD, HALF, 5), 0, NO_FRACTIONS),
    (fractions.between, (THIRD, HALF, 5), 1, NO_FRACTIONS),
    (fractions.common_bottom, ((HALF, THIRD),), 0, NO_FRACTIONS_IN_A_ROW),
    (wheels.leads, (WHEEL, 4), 0, NO_WHEELS),
    (wheels.is_shift, (WHEEL,), 0, NO_WHEELS),
    (wheels.steps_of, ((4, 5, 6),), 0, NO_WHEELS),
    (wheels.put_together, ((WHEEL, OTHER),), 0, NO_TRAINS),
    (wheels.power, (WHEEL, 2), 0, NO_WHEELS),
    (wheels.power, (WHEEL, 0), 0, NO_WHEELS),
    (wheels.finer, (WHEEL, 2), 0, NO_WHEELS),
    (wheels.from_elsewhere, (WHEEL, 2), 0, NO_WHEELS),
    (wheels.is_at_most, (WHEEL, OTHER), 0, NO_WHEELS),
    (wheels.is_at_most, (WHEEL, OTHER), 1, NO_WHEELS),
    (wheels.slips_of, (WHEEL,), 0, NO_WHEELS),
    (wheels.led_places, (WHEEL,), 0, NO_WHEELS),
    (wheels.led_from, (WHEEL, 1), 0, NO_WHEELS),
]

# Likewise, but each call is refused by another error, or by [], if Unfit() is not ahead of it.
UNFIT_AHEAD = [
    (fractions.between, ((0, 1), (5000, 1), 60), 0, NO_FRACTIONS),
    (fractions.between, ((-5000, 1), (0, 1), 60), 1, NO_FRACTIONS),
    (fractions.between, (HALF, THIRD, 60), 0, NO_FRACTIONS),
    (fractions.between, (HALF, THIRD, 60), 1, NO_FRACTIONS),
    (wheels.steps_of, (WHEEL,), 0, NO_WHEELS),
]
