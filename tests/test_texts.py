"""Texts, [17]."""

import random
import unittest
from fractions import Fraction

from bothwheels.errors import BadText, Unfit
from bothwheels.texts import (
    is_rungs, is_wish, read_rungs, read_train, read_wishes, rungs_text, train_text, wishes_text,
)
from tests.reckoning import drawn_train, pair, steady

HALF, THIRD = (1, 2), (1, 3)
RUNGS = ((2, 1, ()), (1, -3, ((4,),)))
WISH = ((0, 1, 0), (HALF, (-1, 3)), (1, 1))


def trains(seed):
    """Drawn trains, with great numbers, of one place, of one WHEEL."""
    draw = random.Random(seed)
    found = [drawn_train(draw, draw.randrange(1, 25), draw.randrange(1, 6), draw.choice((30, 10 ** 6))) for k in range(60)]
    found += [((0,),), ((-7,), (10 ** 12 - 1,)), ((-10 ** 12 + 1, -10 ** 12 + 1),), (steady(24, 0),) * 5]
    return found


def all_rungs(seed):
    """Drawn tuples of RUNGS, with trains of some WHEELS, of none."""
    draw = random.Random(seed)
    found = [RUNGS, ((1, 0, ()),), ((24, -10 ** 12 + 1, ()),) * 3]
    for k in range(60):
        rungs = []
        for own in range(draw.randrange(1, 5)):
            ring = draw.randrange(1, 25)
            rungs.append((ring, draw.randrange(-10 ** 6, 10 ** 6), drawn_train(draw, ring, draw.randrange(4))))
        found.append(tuple(rungs))
    return found


def all_wishes(seed):
    """Drawn tuples of WISHES, () too."""
    draw = random.Random(seed)
    found = [(), (WISH,), (((0,), ((10 ** 12 - 1, 10 ** 12 - 2),), (-10 ** 12 + 1, 1)),)]
    for k in range(60):
        wishes = []
        for own in range(draw.randrange(1, 4)):
            letters = draw.randrange(1, 13)
            word = list(range(letters)) + [draw.randrange(letters) for k in range(draw.randrange(4))]
            draw.shuffle(word)
            drawn = [pair(Fraction(draw.randrange(-99, 99), draw.randrange(1, 100))) for k in range(letters + 1)]
            wishes.append((tuple(word), tuple(drawn[1:]), drawn[0]))
        found.append(tuple(wishes))
    return found


def piece(fraction):
    """How a FRACTION is written."""
    above, below = fraction
    return str(above) if below == 1 else f"{above}/{below}"


def stretched(text, draw):
    """text with other blanks, remarks, and lines without pieces between; and for each line its new number."""
    rows, numbers = [], []
    for row in text.split("\n")[:-1]:
        for own in range(draw.randrange(3)):
            rows.append(draw.choice(("", "   ", "# wheel 0 #", "  # Ring 3, no row; 5 > 4")))
        numbers.append(len(rows))
        row = (" " * draw.randrange(3)) + row.replace(" ", " " * draw.randrange(1, 4)) + " " * draw.randrange(3)
        rows.append(row + draw.choice(("", "#", "# a remark # of several", "#wheel 1")))
    rows += draw.choice(([], [""], ["", "# end"], ["  "]))
    return "\n".join(rows), numbers


class Written(unittest.TestCase):
    def test_trains(self):
        for train in trains(321):
            told = f"ring {len(train[0])}\n"
            for wheel in train:
                told += "wheel " + " ".join([str(number) for number in wheel]) + "\n"
            self.assertEqual(train_text(train), told)

    def test_rungs(self):
        for rungs in all_rungs(322):
            told = ""
            for ring, steps, train in rungs:
                told += f"rung {ring} {steps}\n"
                for wheel in train:
                    told += "wheel " + " ".join([str(number) for number in wheel]) + "\n"
            self.assertEqual(rungs_text(rungs), told)

    def test_wishes(self):
        for wishes in all_wishes(323):
            told = ""
            for word, turns, goal in wishes:
                told += "wish " + " ".join([str(letter) for letter in word])
                told += " turns " + " ".join([piece(own) for own in turns]) + " goal " + piece(goal) + "\n"
            self.assertEqual(wishes_text(wishes), told)

    def test_listed(self):
        self.assertEqual(train_text(((0,),)), "ring 1\nwheel 0\n")
        self.assertEqual(train_text([[0, 0], [-1, 1]]), "ring 2\nwheel 0 0\nwheel -1 1\n")
        self.assertEqual(rungs_text([[1, 0, []]]), "rung 1 0\n")
        self.assertEqual(wishes_text(()), "")
        self.assertEqual(wishes_text([[[0], [[2, 1]], [-1, 2]]]), "wish 0 turns 2 goal -1/2\n")

    def test_unfit(self):
        for wrong in ((), ((1, 0),), ((0, 1), (0,)), None, (0, 1), "ring 1"):
            self.assertRaises(Unfit, train_text, wrong)
        for wrong in ((), ((0, 1, ()),), RUNGS[0], RUNGS + (None,), ((2, 1, ((0,),)),), None, "rung 1 0"):
            self.assertRaises(Unfit, rungs_text, wrong)
        for wrong in (WISH, (WISH, None), ((WISH[0], WISH[1][:1], WISH[2]),), ((WISH[0], WISH[1], (2, 2)),), None, "wish"):
            self.assertRaises(Unfit, wishes_text, wrong)


class ReadAgain(unittest.TestCase):
    CASES = ((train_text, read_train, trains), (rungs_text, read_rungs, all_rungs), (wishes_text, read_wishes, all_wishes))

    def test_what_is_read_is_what_was_told(self):
        for write, read, made in self.CASES:
            for told in made(324):
                self.assertEqual(read(write(told)), told)

    def test_other_blanks_and_remarks(self):
        draw = random.Random(325)
        for write, read, made in self.CASES:
            for told in made(326):
                self.assertEqual(read(stretched(write(told), draw)[0]), told)

    def test_without_a_line_break_at_the_end(self):
        for write, read, made in self.CASES:
            for told in made(327):
                self.assertEqual(read(write(told).rstrip("\n")), told)

    def test_a_row_bent(self):
        # The line of the first row that is not as told, wherever blank lines stand.
        draw = random.Random(328)
        for write, read, made in self.CASES:
            for told in made(329):
                text = write(told)
                if text == "":
                    continue
                text, numbers = stretched(text, draw)
                rows = text.split("\n")
                at = draw.choice(numbers)
                for bent in ("wheels 0", "ring", "rung 1", "wish 0 turns 1", "0", "wheel", "-", "rung 0 0", "ring 0", "wish 1 turns 1 goal 1"):
                    self.refused(read, "\n".join(rows[:at] + [bent] + rows[at + 1:]), at)

    def refused(self, read, text, line):
        with self.assertRaises(BadText) as caught:
            read(text)
        self.assertEqual(vars(caught.exception), {"line": line}, text)


class Refused(unittest.TestCase):
    def check(self, read, cases):
        for text, line in cases:
            with self.subTest(text=text), self.assertRaises(BadText) as caught:
                read(text)
            self.assertEqual(vars(caught.exception), {"line": line}, text)

    def test_no_row(self):
        for text in ("", "\n", "\n\n\n", "   ", "# ring 1", "\n # wheel 0\n\n#\n"):
            self.check(read_train, ((text, 0),))
            self.check(read_rungs, ((text, 0),))
            self.assertEqual(read_wishes(text), ())

    def test_no_wheel_of_a_train(self):
        self.check(read_train, (
            ("ring 2", 0), ("ring 2\n", 0), ("\n\nring 2\n\n\n", 2), ("# a\nring 24 # wheel 0", 1),
        ))

    def test_trains(self):
        self.check(read_train, (
            ("ring 0\nwheel 0", 0), ("ring -1\nwheel 0", 0), ("ring\nwheel 0", 0), ("ring 1 1\nwheel 0", 0), ("ring a\nwheel 0", 0),
            ("ring 01\nwheel 0", 0), ("ring 1/1\nwheel 0", 0), ("rings 1\nwheel 0", 0), ("wheel 0\nring 1", 0), ("1 ring\nwheel 0", 0),
            ("ring 1\nring 1\nwheel 0", 1), ("ring 1\nwheel 0\nring 1", 2), ("ring 1\nwheel 0\n\nring 1\nwheel 0", 3),
            ("ring 1\nwheel 0\nrung 1 0", 2), ("rung 1 0\nwheel 0", 0), ("ring 1\nwheel 0\nwish 0 turns 1 goal 1", 2),
            ("ring 2\nwheel 0", 1), ("ring 2\nwheel 0 0 0", 1), ("ring 2\nwheel", 1), ("ring 2\nwheel 1 0", 1), ("ring 2\nwheel 0 3", 1),
            ("ring 2\nwheel 0 1\nwheel 0 -1\nwheel", 2), ("ring 2\nwheel 0 x", 1), ("ring 2\nwheel 0 1/2", 1), ("ring 2\nwheel 0 -0", 1),
            ("ring 2\n0 1", 1), ("ring 2\nwheel 0 wheel", 1), ("ring 2\nwheel 0\n1", 1), ("ring\n2\nwheel 0 1", 0),
            ("ring 1\nwheel 1234567890123", 1), ("ring 999999999999\nwheel 0", 1), ("ring 2 wheel 0 1", 0),
        ))

    def test_rungs(self):
        self.check(read_rungs, (
            ("rung 0 1", 0), ("rung -2 1", 0), ("rung 1", 0), ("rung", 0), ("rung 1 2 3", 0), ("rung 1 a", 0), ("rung 1 1/2", 0),
            ("wheel 0", 0), ("\nwheel 0\nrung 1 0", 1), ("ring 1\nwheel 0", 0), ("rung 1 0\nring 1", 1), ("rung 1 0\nwheel 0 0", 1),
            ("rung 2 0\nwheel 1 0", 1), ("rung 2 0\nwheel 0 1\n\nrung 1 0\nwheel 0 1", 4), ("rung 1 0\nwheel", 1), ("rung 1 0\nwheel a", 1),
            ("rung 1 0\nwish 0 turns 1 goal 1", 1), ("rung 1 0\nrung 0 0\nwheel", 1), ("rung 1 0\n\n\n1", 3), ("rungs 1 0", 0),
        ))

    def test_wishes(self):
        self.check(read_wishes, (
            ("wish", 0), ("wish 0", 0), ("wish 0 turns 1", 0), ("wish 0 goal 1", 0), ("wish turns goal", 0), ("wish 0 turns goal 1", 0),
            ("wish turns 1 goal 1", 0), ("wish 0 turns 1 goal", 0), ("wish 0 turns 1 goal 1 1", 0), ("wish 0 turns 1 goal 1 goal 1", 0),
            ("wish 0 goal 1 turns 1", 0), ("wish 1 turns 1 goal 1", 0), ("wish 0 2 turns 1/2 1/2 goal 1", 0), ("wish 0 1 turns 1 goal 1", 0),
            ("wish 0 turns 1 1 goal 1", 0), ("wish 0 turns 2/4 goal 1", 0), ("wish 0 turns 1 goal 3/1", 0), ("wish 0 turns 1/0 goal 1", 0),
            ("wish 0 turns a goal 1", 0), ("wish a turns 1 goal 1", 0), ("wish -1 turns 1 goal 1", 0), ("wish 1/2 turns 1 goal 1", 0),
            ("wish 0 turns 1 turns 1 goal 1", 0), ("wish 0 turns 1\ngoal 1", 0), ("wishes 0 turns 1 goal 1", 0), ("ring 1", 0),
            ("wish 0 turns 1 goal 1\nwheel 0", 1), ("wish 0 turns 1 goal 1\n\nwish 00 turns 1 goal 1", 2),
            ("wish 0 turns 1 goal 1\nwish 0 turns 1 goal 1/1\nwish", 1), ("0 turns 1 goal 1", 0),
        ))

    def test_a_fault_of_signs_is_ahead_of_all(self):
        for read in (read_train, read_rungs, read_wishes):
            self.check(read, (
                ("ring 0\n\nA", 2), ("wheel\nwish\nrung\n.", 3), ("a\nb\n+\n*", 2), ("_", 0), ("\n\n(", 2), ("ring 1\nwheel 0\nwheel 0,1", 2),
            ))
        self.assertEqual(read_train("ring 1\nwheel 0 # A, b!"), ((0,),))

    def test_of_several_faults_the_first(self):
        self.check(read_train, (("ring 2\nwheel 0 1\nwheel 1 0\nring 2\nwheel", 2), ("ring 0\nring 0", 0)))
        self.check(read_rungs, (("rung 2 0\nwheel 0 1\nwheel 1\nrung", 2),))
        self.check(read_wishes, (("wish 0 turns 1 goal 1\nwish 0 turns goal\nwish", 1),))


class WhatTheyAre(unittest.TestCase):
    def test_is_wish(self):
        for wish in (WISH, ((0,), ((0, 1),), (-7, 1)), ((2, 1, 0), (HALF, HALF, HALF), HALF), ((0,) * 30, ((10 ** 40, 1),), THIRD)):
            self.assertIs(is_wish(wish), True)
            self.assertIs(is_wish(list(wish)), False)
        for thing in (
            (), WISH[:2], WISH + (1,), ((0, 1), (HALF,), (1, 1)), ((0,), (HALF, HALF), (1, 1)), ((0, 2), (HALF, HALF), (1, 1)),
            ((0,), HALF, (1, 1)), ((0,), ((2, 4),), (1, 1)), ((0,), (HALF,), (2, 2)), ((0,), (HALF,), 1), ((), (), (1, 1)),
            ([0], (HALF,), (1, 1)), ((0,), [HALF], (1, 1)), ((0,), ([1, 2],), (1, 1)), ((0,), (HALF,), [1, 1]), None, True, 0, "wish",
        ):
            self.assertIs(is_wish(thing), False, thing)

    def test_is_rungs(self):
        for rungs in all_rungs(330):
            self.assertIs(is_rungs(rungs), True)
            self.assertIs(is_rungs(list(rungs)), False)
            self.assertIs(is_rungs(rungs + (None,)), False)
            self.assertIs(is_rungs(rungs[:1] + ([1, 0, ()],)), False)
        for thing in ((), [], RUNGS[0], ((0, 1, ()),), ((2, 1, []),), ((2, 1, ((0,),)),), None, False, "rung", 1):
            self.assertIs(is_rungs(thing), False, thing)

    def test_what_is_read(self):
        for rungs in all_rungs(331):
            self.assertIs(is_rungs(read_rungs(rungs_text(rungs))), True)
        for wishes in all_wishes(332):
            self.assertEqual([is_wish(own) for own in read_wishes(wishes_text(wishes))], [True] * len(wishes))


if __name__ == "__main__":
    unittest.main()
