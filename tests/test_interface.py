"""The interface: errors, names of functions, their arguments, the files in which they stand."""

import importlib
import inspect
import unittest

from bothwheels import errors

ERRORS = {
    "NoLetter": (LookupError, ("letter",)),
    "NoPlace": (LookupError, ("place",)),
    "NothingDone": (LookupError, ()),
    "BadText": (ValueError, ("line",)),
    "Broken": (ValueError, ("place",)),
    "CanNot": (ValueError, ()),
    "TooMany": (ValueError, ()),
    "Unfit": (ValueError, ()),
}

FUNCTIONS = {
    "signs": {
        "pieces": ("text",),
        "text_of": ("pieces",),
        "number_of": ("piece",),
        "piece_of": ("number",),
        "fraction_of": ("piece",),
        "fraction_piece": ("fraction",),
    },
    "fractions": {
        "is_fraction": ("thing",),
        "fraction": ("above", "below"),
        "added": ("one", "other"),
        "less": ("one", "other"),
        "negative": ("one",),
        "times": ("one", "number"),
        "compared": ("one", "other"),
        "less_than": ("one", "other"),
        "floor_of": ("one",),
        "ceiling_of": ("one",),
        "floor_times": ("one", "number"),
        "ceiling_times": ("one", "number"),
        "simplest": ("one", "other"),
        "least_bottom_between": ("one", "other"),
        "between": ("one", "other", "most"),
        "common_bottom": ("fractions",),
    },
    "wheels": {
        "is_wheel": ("thing",),
        "is_train": ("thing",),
        "leads": ("wheel", "number"),
        "shift": ("places", "steps"),
        "is_shift": ("wheel",),
        "steps_of": ("wheel",),
        "put_together": ("train",),
        "power": ("wheel", "beats"),
        "finer": ("wheel", "many"),
        "from_elsewhere": ("wheel", "number"),
        "is_at_most": ("wheel", "other"),
        "slips_of": ("wheel",),
        "led_places": ("wheel",),
        "led_from": ("wheel", "number"),
    },
}


class ErrorClasses(unittest.TestCase):
    def test_bases(self):
        for name, (base, kept) in ERRORS.items():
            with self.subTest(name=name):
                self.assertEqual(getattr(errors, name).__bases__, (base,))

    def test_there_are_no_others(self):
        own = [name for name, worth in vars(errors).items() if inspect.isclass(worth)]
        self.assertEqual(sorted(own), sorted(ERRORS))

    def test_defined_there(self):
        for name in ERRORS:
            self.assertEqual(getattr(errors, name).__module__, "bothwheels.errors")

    def test_values_are_kept(self):
        for name, (base, kept) in ERRORS.items():
            for worth in (0, -7, 10 ** 30, "a", (1, (2, 3))):
                with self.subTest(name=name, worth=worth):
                    made = getattr(errors, name)(*[worth for key in kept])
                    self.assertEqual(vars(made), {key: worth for key in kept})

    def test_values_by_name(self):
        for name, (base, kept) in ERRORS.items():
            with self.subTest(name=name):
                made = getattr(errors, name)(**{key: 5 for key in kept})
                self.assertEqual(vars(made), {key: 5 for key in kept})

    def test_values_are_needed(self):
        for name, (base, kept) in ERRORS.items():
            if kept:
                with self.subTest(name=name), self.assertRaises(TypeError):
                    getattr(errors, name)()

    def test_caught_by_the_built_in_class_alone(self):
        for name, (base, kept) in ERRORS.items():
            other = ValueError if base is LookupError else LookupError
            made = getattr(errors, name)(*[1 for key in kept])
            self.assertIsInstance(made, base)
            self.assertNotIsInstance(made, other)

    def test_none_is_another_one(self):
        for name in ERRORS:
            for other in ERRORS:
                if name != other:
                    self.assertFalse(issubclass(getattr(errors, name), getattr(errors, other)))


class Functions(unittest.TestCase):
    def each(self):
        """The list of (module, function, names of arguments)."""
        found = []
        for module, functions in FUNCTIONS.items():
            place = importlib.import_module("bothwheels." + module)
            for name, arguments in functions.items():
                self.assertTrue(hasattr(place, name), name + " is lacking")
                found.append((module, getattr(place, name), arguments))
        return found

    def test_arguments(self):
        for module, function, arguments in self.each():
            self.assertEqual(tuple(inspect.signature(function).parameters), arguments, function)

    def test_arguments_by_position_or_name_and_none_left_out(self):
        for module, function, arguments in self.each():
            for parameter in inspect.signature(function).parameters.values():
                self.assertEqual(parameter.kind, inspect.Parameter.POSITIONAL_OR_KEYWORD)
                self.assertEqual(parameter.default, inspect.Parameter.empty)

    def test_defined_in_their_file(self):
        for module, function, arguments in self.each():
            self.assertTrue(inspect.isfunction(function))
            self.assertEqual(function.__module__, "bothwheels." + module)


if __name__ == "__main__":
    unittest.main()
