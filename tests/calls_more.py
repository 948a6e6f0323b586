"""Calls of each function of the files from makers.py on; values that stand in them."""

from bothwheels import goals, judge, makers, rows, stairs, teeth, texts

HALF, THIRD = (1, 2), (1, 3)
SLOW, QUICK = (0, 2, 2), (1, 6, 7, 7, 7, 7)
BOTH = (HALF, THIRD)
TURNED, BESIDE = (3, 6, 6, 6, 9, 9), (3, 3, 5, 5, 7, 7)
LOWER, HIGHER = (-3, -3, -3, 0, 0, 0), (-3, -1, -1, 1, 1, 3)
BAR = (((0, 0, 1, 1), (1, 1, 1)), ((0, 1, 0, 1), (0, 2, 3)))
RUNGS = ((2, 1, ()), (1, -3, ((4,), (5,))))
WISHES = (((0, 1, 0), (HALF, (-1, 3)), (1, 1)), ((0,), ((2, 1),), (-7, 5)))
LOW, HIGH = (0, 1, 1, 3), (0, 0, 2, 4)
STEEP, GOAL, CORNER = (0, 0, 1), (3, 2), ((1, 4), HALF)
CORNER_PAPER = ((0, 0, 1, 0, 0, 1), (((0, 1, 1), (0, 1, 1)),), (((0, 0, 0, 0, 1), (2, 1, 1)),))
WALK, MARK = (1, 2, 3, 5), (2, 2, 4, 5)
ON, SLIP = (1, 2, 3), (0, 0, 3)

STANDING = (
    ("train", (ON, SLIP), (0, 1)), ("most", BOTH, (1, 1)), ("word", (0, 1), BOTH, (5, 4)), ("teeth", SLIP, (0, 1, 3), 3),
)
FALLEN = (
    ("train", (ON, SLIP), (-1, 2)), ("most", BOTH, (5, 6)), ("word", (0, 1), BOTH, (1, 1)), ("teeth", SLIP, (0, 1, 3), 0),
)
REASONS = (
    (1, 1, 0), (1, 2, 3, 4, 4, 6),
    (((0, 0, 1, 1, 1), (1, 1, 1)), ((0, 1, 0, 1, 1), (2, 1, 1))), ((1, 1), (1, -1), (1, 1)),
)
PAPERS = ((1, 3, -1), (TURNED, BESIDE), (TURNED, BESIDE), (0, 1, 0))

MORE_CALLS = [
    (makers.raised, ("wheel", "fraction"), (SLOW, HALF)),
    (makers.is_raised, ("wheel", "fraction", "thing"), (SLOW, HALF, (QUICK, 2))),
    (makers.is_raised, ("wheel", "fraction", "thing"), (SLOW, HALF, (QUICK, 3))),
    (makers.lowered, ("wheel", "fraction"), (SLOW, (-1, 2))),
    (makers.is_lowered, ("wheel", "fraction", "thing"), (SLOW, (-1, 2), ((-1, -1, -1, -1, -1, 0), 2))),
    (makers.reached, ("turns",), (BOTH,)),
    (makers.is_reached, ("turns", "thing"), (BOTH, (TURNED, BESIDE))),
    (makers.lowest, ("turns",), (BOTH,)),
    (makers.is_lowest, ("turns", "thing"), (((-1, 2), (-1, 3)), (LOWER, HIGHER))),
    (rows.is_row, ("thing",), ((0, 1, 0),)),
    (rows.many_rows, ("numbers",), ((4, 4),)),
    (rows.rows, ("numbers",), ((1, 2, 1),)),
    (rows.led_train, ("row", "numbers"), ((0, 1, 0, 1), (1, -1))),
    (rows.row_of, ("train",), (((1, 1, 4, 5, 5), (0, 3, 3, 3, 4)),)),
    (rows.row_turning, ("word", "row", "numbers"), (STEEP, (0, 0, 1, 1), (1, 1))),
    (rows.most_of, ("word", "turns"), (STEEP, BOTH)),
    (rows.best_row, ("word", "turns"), (STEEP, BOTH)),
    (rows.least_of, ("word", "turns"), (STEEP, BOTH)),
    (rows.bar, ("word", "turns", "fraction"), ((0, 1), (HALF, HALF), (2, 1))),
    (rows.is_bar, ("word", "turns", "fraction", "thing"), ((0, 1), (HALF, HALF), (2, 1), BAR)),
    (texts.train_text, ("train",), (((0, 2, 2), (-1, 1, 2)),)),
    (texts.rungs_text, ("rungs",), (RUNGS,)),
    (texts.wishes_text, ("wishes",), (WISHES,)),
    (texts.wishes_text, ("wishes",), ((),)),
    (texts.read_train, ("text",), ("ring 2 # two\n\n wheel  0 1",)),
    (texts.read_rungs, ("text",), ("rung 2 1\nrung 1 -3\nwheel 4",)),
    (texts.read_wishes, ("text",), ("wish 0 1 turns 1/2 2 goal -1/3",)),
    (texts.is_wish, ("thing",), (WISHES[0],)),
    (texts.is_rungs, ("thing",), (RUNGS,)),
    (teeth.lesser, ("wheel", "other"), (LOW, HIGH)),
    (teeth.greater, ("wheel", "other"), (LOW, HIGH)),
    (teeth.teeth, ("wheel",), (LOW,)),
    (teeth.with_tooth, ("wheel", "tooth"), (LOW, (2, 1))),
    (teeth.behind_plan, ("wheel", "plan"), (LOW, ((2, 1), (3, 1)))),
    (teeth.behind_plan, ("wheel", "plan"), (LOW, ())),
    (teeth.turnings_along, ("wheel", "plan"), (LOW, ((2, 1), (3, 1)))),
    (teeth.teeth_between, ("wheel", "other"), (LOW, HIGH)),
    (teeth.plan, ("wheel", "other"), (LOW, HIGH)),
    (teeth.is_plan, ("wheel", "other", "thing"), (LOW, HIGH, ((1, -1), (2, 1), (3, 1)))),
    (teeth.row_wheel, ("row", "goal", "ring"), ((0, 2), HALF, 4)),
    (teeth.fewest, ("wheel", "goal"), ((0, 0, 0), HALF)),
    (teeth.fewest_plan, ("wheel", "goal"), ((0, 0, 0), HALF)),
    (teeth.is_fewest_plan, ("wheel", "goal", "thing"), ((0, 0, 0), (0, 1), ())),
    (stairs.can, ("word", "turns", "fraction"), (STEEP, CORNER, GOAL)),
    (stairs.most_bottoms, ("word", "fraction"), (STEEP, GOAL)),
    (stairs.just_below, ("fraction", "most"), (HALF, 4)),
    (stairs.least_beside, ("word", "fraction", "letter", "turn"), (STEEP, GOAL, 0, HALF)),
    (stairs.corners, ("word", "fraction"), (STEEP, GOAL)),
    (stairs.is_corner, ("word", "fraction", "thing"), (STEEP, GOAL, CORNER)),
    (stairs.corner_paper, ("word", "fraction", "turns"), (STEEP, GOAL, CORNER)),
    (stairs.is_corner_paper, ("word", "fraction", "turns", "thing"), (STEEP, GOAL, CORNER, CORNER_PAPER)),
    (goals.way_of, ("wheel", "place"), (WALK, -3)),
    (goals.first_at, ("wheel", "place", "goal"), (WALK, 0, 10 ** 30)),
    (goals.first_at, ("wheel", "place", "goal"), ((1, 1, 3), 2, 5)),
    (goals.last_below, ("wheel", "place", "goal"), (WALK, 0, 10)),
    (goals.first_passed, ("wheel", "place", "other", "far"), (MARK, 0, WALK, 20)),
    (goals.meeting, ("wheel", "place", "other", "far"), (MARK, 0, WALK, 21)),
    (goals.meeting_place, ("wheel", "place", "other", "far"), (MARK, 1, WALK, 3)),
    (goals.slowest, ("wheel", "rounds"), (MARK, 3)),
    (goals.quickest, ("wheel", "rounds"), (MARK, 3)),
    (judge.first_fallen, ("demands",), (STANDING + FALLEN,)),
    (judge.first_fallen, ("demands",), ((),)),
]
for at, demand in enumerate(STANDING + FALLEN):
    MORE_CALLS += [
        (judge.is_demand, ("thing",), (demand,)),
        (judge.is_so, ("demand",), (demand,)),
        (judge.paper_against, ("demand",), (demand,)),
        (judge.is_paper_against, ("demand", "thing"), (demand, PAPERS[at % 4])),
        (judge.reason_for, ("demand",), (demand,)),
        (judge.is_reason_for, ("demand", "thing"), (demand, REASONS[at % 4])),
    ]
