"""Runs the examples of the document as they stand there."""

import ast
import importlib

from bothwheels import errors

MODULES = (
    "signs", "fractions", "wheels", "turnings", "sides", "backs", "led", "seen", "words", "ladders", "most", "makers",
    "rows", "texts", "teeth", "stairs", "goals", "judge", "desk",
)


def names_of_package():
    """All public names of the package's modules, as an example sees them."""
    names = {}
    for module in MODULES:
        for name, worth in vars(importlib.import_module("bothwheels." + module)).items():
            if not name.startswith("_"):
                names[name] = worth
    return names


def parted(text):
    """The examples of text: pairs (source, lines expected)."""
    found = []
    for row in text.strip().split("\n"):
        row = row.strip()
        if row.startswith(">>> "):
            found.append((row[4:], []))
        elif row:
            found[-1][1].append(row)
    return found


def same(one, other):
    """Whether both are equal and of the same kinds at every depth (True is not 1)."""
    if type(one) is not type(other):
        return False
    if isinstance(one, (list, tuple)):
        return len(one) == len(other) and all(same(a, b) for a, b in zip(one, other))
    return one == other


def run_examples(case, text, names):
    """Checks each example of text with the test case; assignments go into names."""
    ran = 0
    for source, expected in parted(text):
        if not expected:
            exec(source, names)
            continue
        ran += 1
        with case.subTest(source=source):
            check(case, source, "\n".join(expected), names)
    case.assertGreater(ran, 0)


def check(case, source, expected, names):
    """Checks one example."""
    if not expected.startswith("raises "):
        told = eval(source, names)
        case.assertTrue(same(told, ast.literal_eval(expected)), f"{told!r} is not {expected}")
        return
    call = ast.parse(expected[len("raises "):], mode="eval").body
    error = getattr(errors, call.func.id)
    kept = {word.arg: ast.literal_eval(word.value) for word in call.keywords}
    with case.assertRaises(error) as caught:
        eval(source, names)
    case.assertIs(type(caught.exception), error)
    case.assertEqual(vars(caught.exception), kept)
