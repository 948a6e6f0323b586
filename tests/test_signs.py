"""Pieces of a text, [4]."""

import math
import random
import string
import unittest

from bothwheels.errors import BadText, Unfit
from bothwheels.signs import fraction_of, fraction_piece, number_of, piece_of, pieces, text_of

SIGNS = string.ascii_lowercase + string.digits + "-/"
PRINTED = "".join([chr(code) for code in range(32, 127)])


def slow_pieces(text):
    """The pieces, sign by sign; the number of the first line with a fault if there is one."""
    found, run, line, remark = [], "", 0, False
    for sign in text + "\n":
        if sign in SIGNS and not remark:
            run += sign
            continue
        if run:
            found.append((run, line))
            run = ""
        if sign == "\n":
            line, remark = line + 1, False
        elif sign == "#":
            remark = True
        elif sign != " " and not remark:
            return line
    return found


def drawn_pieces(draw, many):
    """So many pairs (piece, line), lines never falling."""
    found, line = [], draw.choice((0, 0, 0, 1, 3))
    for k in range(many):
        found.append(("".join([draw.choice(SIGNS) for j in range(draw.choice((1, 1, 2, 5, 30)))]), line))
        line += draw.choice((0, 0, 0, 1, 1, 2, 9))
    return found


class Pieces(unittest.TestCase):
    def test_empty(self):
        for text in ("", " ", "    ", "\n", "\n\n \n", "#", "# all", "#a\n#B\n ### \n"):
            with self.subTest(text=text):
                self.assertEqual(pieces(text), [])
        self.assertEqual(text_of([]), "")
        self.assertEqual(text_of(()), "")

    def test_ordinary(self):
        self.assertEqual(pieces("a"), [("a", 0)])
        self.assertEqual(pieces("\n\na b\n\n  c  "), [("a", 2), ("b", 2), ("c", 4)])
        self.assertEqual(pieces("-- / 1/2/3 a-b 0z"), [("--", 0), ("/", 0), ("1/2/3", 0), ("a-b", 0), ("0z", 0)])

    def test_every_sign_of_a_piece(self):
        self.assertEqual(pieces(SIGNS), [(SIGNS, 0)])
        for sign in SIGNS:
            self.assertEqual(pieces(sign), [(sign, 0)])
            self.assertEqual(pieces("a " + sign + "b"), [("a", 0), (sign + "b", 0)])

    def test_every_sign_of_none(self):
        for sign in PRINTED:
            if sign in SIGNS + " #":
                continue
            for text, line in ((sign, 0), ("a" + sign, 0), ("a\n\n" + sign + "b c", 2), ("a\nb " + sign + " c\nd", 1)):
                with self.subTest(text=text), self.assertRaises(BadText) as caught:
                    pieces(text)
                self.assertEqual(vars(caught.exception), {"line": line})
            self.assertEqual(pieces("a # " + sign + "\nb #" + sign), [("a", 0), ("b", 1)])

    def test_the_first_line_with_a_fault(self):
        for text, line in (("a\nB\nc\nD", 1), ("#A\n\n\n? ?\n!", 3), ("a # B\nc C # d\nE", 1), ("X\nY\nZ", 0)):
            with self.subTest(text=text), self.assertRaises(BadText) as caught:
                pieces(text)
            self.assertEqual(caught.exception.line, line)

    def test_remarks(self):
        self.assertEqual(pieces("ab#cd"), [("ab", 0)])
        self.assertEqual(pieces("a #b # c\nd"), [("a", 0), ("d", 1)])
        self.assertEqual(pieces("a##\n#\n##b\nc"), [("a", 0), ("c", 3)])
        self.assertEqual(pieces("#\na#"), [("a", 1)])

    def test_of_whatever_length(self):
        long = "a1-/" * 5000
        self.assertEqual(pieces(long + " " + long), [(long, 0), (long, 0)])
        self.assertEqual(text_of([(long, 1)]), "\n" + long + "\n")

    def test_drawn_texts_sign_by_sign(self):
        draw = random.Random(4)
        faults = 0
        for k in range(3000):
            signs = "ab1-/  \n\n#" + ("A." if k % 3 == 0 else "")
            text = "".join([draw.choice(signs) for j in range(draw.randrange(30))])
            told = slow_pieces(text)
            with self.subTest(text=text):
                if isinstance(told, list):
                    self.assertEqual(pieces(text), told)
                    continue
                faults += 1
                with self.assertRaises(BadText) as caught:
                    pieces(text)
                self.assertEqual(caught.exception.line, told)
        self.assertGreater(faults, 100)

    def test_every_sign_drawn(self):
        draw = random.Random(5)
        for k in range(2000):
            text = "".join([draw.choice(PRINTED + "\n\n     ##") for j in range(draw.randrange(6))])
            told = slow_pieces(text)
            with self.subTest(text=text):
                if isinstance(told, list):
                    self.assertEqual(pieces(text), told)
                else:
                    self.assertRaises(BadText, pieces, text)


class TextOf(unittest.TestCase):
    def test_listed(self):
        self.assertEqual(text_of([("a", 0)]), "a\n")
        self.assertEqual(text_of([("a", 3)]), "\n\n\na\n")
        self.assertEqual(text_of([("a", 0), ("b", 0), ("c", 0)]), "a b c\n")
        self.assertEqual(text_of([("a", 1), ("b", 1), ("c", 2), ("d", 4)]), "\na b\nc\n\nd\n")

    def test_there_and_back(self):
        draw = random.Random(6)
        for k in range(500):
            told = drawn_pieces(draw, draw.randrange(12))
            with self.subTest(pieces=told):
                self.assertEqual(pieces(text_of(told)), told)

    def test_its_lines(self):
        draw = random.Random(7)
        for k in range(300):
            told = drawn_pieces(draw, draw.randrange(1, 12))
            rows = [" ".join([piece for piece, at in told if at == line]) for line in range(told[-1][1] + 1)]
            self.assertEqual(text_of(told), "".join([row + "\n" for row in rows]))

    def test_blanks_remarks_and_line_breaks_put_in(self):
        draw = random.Random(8)
        for k in range(300):
            told = drawn_pieces(draw, draw.randrange(1, 12))
            text = text_of(told)
            self.assertEqual(pieces(text.replace(" ", "   ").replace("\n", "  \n ")), told)
            self.assertEqual(pieces(text.replace("\n", " # B %~ a 1\n")), told)
            self.assertEqual(pieces(text.replace("\n", "#\n")), told)
            gaps = [at for at, sign in enumerate(text) if sign == " "]
            if gaps:
                at = draw.choice(gaps)
                ahead = len(pieces(text[:at]))
                later = told[:ahead] + [(piece, line + 1) for piece, line in told[ahead:]]
                self.assertEqual(pieces(text[:at] + "\n" + text[at:]), later)

    def test_great_lines(self):
        text = text_of([("a", 10 ** 6), ("b", 10 ** 6 + 5)])
        self.assertEqual(text, "\n" * 10 ** 6 + "a" + "\n" * 5 + "b\n")

    def test_lines_that_fall(self):
        self.assertRaises(Unfit, text_of, [("a", 1), ("b", 0)])
        self.assertRaises(Unfit, text_of, [("a", 0), ("b", 2), ("c", 2), ("d", 1)])
        self.assertRaises(Unfit, text_of, [("a", -1)])
        self.assertRaises(Unfit, text_of, [("a", -2), ("b", -1)])

    def test_what_is_no_piece(self):
        for sign in PRINTED + "\n\t\r\x00\x7f\xe9":
            if sign not in SIGNS:
                self.assertRaises(Unfit, text_of, [("a" + sign, 0)])
                self.assertRaises(Unfit, text_of, [("a", 0), (sign, 0)])
            else:
                self.assertEqual(text_of([(sign, 0)]), sign + "\n")


class NumberPieces(unittest.TestCase):
    def test_numbers_there_and_back(self):
        draw = random.Random(9)
        numbers = list(range(-1100, 1101)) + [draw.randrange(-10 ** 12 + 1, 10 ** 12) for k in range(300)]
        for number in numbers + [10 ** 12 - 1, 1 - 10 ** 12, 10 ** 11, -10 ** 11, 10 ** 6, -10 ** 6]:
            piece = piece_of(number)
            self.assertIs(type(piece), str)
            self.assertEqual(number_of(piece), number)
            self.assertEqual(pieces(piece), [(piece, 0)])

    def test_written(self):
        written = {0: "0", 7: "7", -7: "-7", 10: "10", -120: "-120", 999999999999: "9" * 12, -999999999999: "-" + "9" * 12}
        for number, piece in written.items():
            self.assertEqual(piece_of(number), piece)
            self.assertEqual(number_of(piece), number)

    def test_none(self):
        for piece in ("", "-", "--1", "-0", "00", "07", "-07", "000", "-00", "1-", "1-2", "a", "1a", "a1", "1/1", "/", "+1", " 1",
                      "1 ", "1\n", "\n1", "1.0", "1_0", "0x1", "- 1", "\u0663", "1\u0663", "\u00b2", "-\u0663", "#1", "1" * 13,
                      "-" + "1" * 13, "0" + "1" * 11, "1" * 5000, "1e3", "01"):
            with self.subTest(piece=piece):
                self.assertIsNone(number_of(piece))

    def test_of_twelve_figures(self):
        self.assertEqual(number_of("1" * 12), 111111111111)
        self.assertEqual(number_of("-" + "1" * 12), -111111111111)
        self.assertIsNone(number_of("1" * 13))
        self.assertIsNone(number_of("-" + "1" * 13))
        self.assertEqual(number_of("1" + "0" * 11), 10 ** 11)

    def test_somewhat_beyond_the_bounds(self):
        self.assertEqual(piece_of(10 ** 12), "1" + "0" * 12)
        self.assertEqual(piece_of(-10 ** 13), "-1" + "0" * 13)
        self.assertEqual(fraction_piece((10 ** 12, 10 ** 12 + 1)), "1000000000000/1000000000001")

    def test_all_short_pieces(self):
        told = {str(number): number for number in range(-999, 10000)}
        for first in "-/a0123":
            for second in ["", *"-/a019"]:
                for third in ["", *"-/z09"]:
                    piece = first + second + third
                    self.assertEqual(number_of(piece), told.get(piece), piece)


class FractionPieces(unittest.TestCase):
    def test_there_and_back(self):
        for below in range(1, 40):
            for above in range(-60, 61):
                if math.gcd(above, below) == 1:
                    piece = fraction_piece((above, below))
                    self.assertEqual(piece, str(above) if below == 1 else f"{above}/{below}")
                    self.assertEqual(fraction_of(piece), (above, below))

    def test_great(self):
        great = 10 ** 12 - 1
        for told in ((great, great - 1), (-great, great - 1), (1, great), (great, 1), (-great, 1)):
            self.assertEqual(fraction_of(fraction_piece(told)), told)
        self.assertIsNone(fraction_of("1/" + "1" * 13))
        self.assertIsNone(fraction_of("1" * 13 + "/2"))
        self.assertIsNone(fraction_of("1" * 13))

    def test_all_with_small_numbers(self):
        for above in range(-30, 31):
            for below in range(-5, 31):
                least = below >= 2 and math.gcd(above, below) == 1
                self.assertEqual(fraction_of(f"{above}/{below}"), (above, below) if least else None)

    def test_none(self):
        for piece in ("", "/", "-", "1/", "/2", "-/2", "1/-", "1/1", "0/1", "-3/1", "2/4", "0/2", "0/3", "1/0", "0/0", "1/-2", "-1/-2",
                      "1/2/3", "1//2", "/1/2", "1/2/", "01/2", "1/02", "-0/2", "-0", "a/2", "1/b", "half", "00", "1/2 ", " 1/2", "1 /2",
                      "1/2\n", "+1/2", "1/+2", "1/\u0663", "3/6", "-4/2", "12/8"):
            with self.subTest(piece=piece):
                self.assertIsNone(fraction_of(piece))

    def test_pair_of_a_number_piece(self):
        self.assertEqual(fraction_of("0"), (0, 1))
        self.assertEqual(fraction_of("-12"), (-12, 1))
        self.assertEqual(fraction_piece((0, 1)), "0")


if __name__ == "__main__":
    unittest.main()
