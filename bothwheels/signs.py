"""The pieces of a text, and the numbers and fractions among them."""

from bothwheels.errors import BadText, Unfit
from bothwheels.fractions import as_fraction, is_fraction
from bothwheels.kinds import is_number, with_tuples

FIGURES = "0123456789"
PIECE_SIGNS = "abcdefghijklmnopqrstuvwxyz0123456789-/"
MOST_FIGURES = 12


def pieces(text):
    """The PIECES of the text; BadText(line) for the first line with a sign that is in none."""
    found = []
    for line, row in enumerate(text.split("\n")):
        for word in _words(row):
            if not _is_piece(word):
                raise BadText(line)
            found.append((word, line))
    return found


def _words(row):
    """What blanks part in a row, ahead of its remark."""
    told = row.partition("#")[0]
    return [word for word in told.split(" ") if word != ""]


def _is_piece(value):
    """Whether value is a string that can be a piece."""
    if not isinstance(value, str) or value == "":
        return False
    return all([sign in PIECE_SIGNS for sign in value])


def _is_in_line(value):
    """Whether value is a pair of a piece and a line."""
    if not isinstance(value, tuple) or len(value) != 2:
        return False
    piece, line = value
    return _is_piece(piece) and is_number(line) and line >= 0


def _as_pieces(value):
    """The PIECES that value is, as a tuple of tuples; Unfit() if it is none."""
    told = with_tuples(value, 2)
    if not isinstance(told, tuple) or not all([_is_in_line(own) for own in told]):
        raise Unfit()
    lines = [line for piece, line in told]
    if lines != sorted(lines):
        raise Unfit()
    return told


def text_of(pieces):
    """The text with each piece in its line."""
    told = _as_pieces(pieces)
    parts = []
    at = 0
    for piece, line in told:
        if line > at:
            parts.append("\n" * (line - at))
        elif parts:
            parts.append(" ")
        parts.append(piece)
        at = line
    if parts:
        parts.append("\n")
    return "".join(parts)


def number_of(piece):
    """The number of a number piece, None if it is none."""
    figures = piece[1:] if piece.startswith("-") else piece
    if figures == "" or len(figures) > MOST_FIGURES:
        return None
    # isdigit would take figures of other scripts, too.
    if not all([figure in FIGURES for figure in figures]):
        return None
    if figures.startswith("0") and piece != "0":
        return None
    return int(piece)


def piece_of(number):
    """The number piece of number."""
    return str(number)


def fraction_of(piece):
    """The FRACTION that piece tells, None if it tells none."""
    top, slash, bottom = piece.partition("/")
    above = number_of(top)
    below = number_of(bottom) if slash == "/" else 1
    if above is None or below is None:
        return None
    # A bottom of 1 is not written.
    if slash == "/" and below < 2:
        return None
    return (above, below) if is_fraction((above, below)) else None


def fraction_piece(fraction):
    """The piece of the FRACTION."""
    above, below = as_fraction(fraction)
    if below == 1:
        return piece_of(above)
    return piece_of(above) + "/" + piece_of(below)
