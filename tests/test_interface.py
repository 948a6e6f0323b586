"""The interface: errors, names of functions, their arguments, the files in which they stand."""

import importlib
import inspect
import unittest

from bothwheels import errors

ERRORS = {
    "NoLetter": (LookupError, ("letter",)),
    "NoPlace": (LookupError, ("place",)),
    "NothingDone": (LookupError, ()),
    "BadText": (ValueError, ("line",)),
    "Broken": (ValueError, ("place",)),
    "CanNot": (ValueError, ()),
    "TooMany": (ValueError, ()),
    "Unfit": (ValueError, ()),
}

FUNCTIONS = {
    "signs": {
        "pieces": ("text",),
        "text_of": ("pieces",),
        "number_of": ("piece",),
        "piece_of": ("number",),
        "fraction_of": ("piece",),
        "fraction_piece": ("fraction",),
    },
    "fractions": {
        "is_fraction": ("thing",),
        "fraction": ("above", "below"),
        "added": ("one", "other"),
        "less": ("one", "other"),
        "negative": ("one",),
        "times": ("one", "number"),
        "compared": ("one", "other"),
        "less_than": ("one", "other"),
        "floor_of": ("one",),
        "ceiling_of": ("one",),
        "floor_times": ("one", "number"),
        "ceiling_times": ("one", "number"),
        "simplest": ("one", "other"),
        "least_bottom_between": ("one", "other"),
        "between": ("one", "other", "most"),
        "common_bottom": ("fractions",),
    },
    "wheels": {
        "is_wheel": ("thing",),
        "is_train": ("thing",),
        "leads": ("wheel", "number"),
        "shift": ("places", "steps"),
        "is_shift": ("wheel",),
        "steps_of": ("wheel",),
        "put_together": ("train",),
        "power": ("wheel", "beats"),
        "finer": ("wheel", "many"),
        "from_elsewhere": ("wheel", "number"),
        "is_at_most": ("wheel", "other"),
        "slips_of": ("wheel",),
        "led_places": ("wheel",),
        "led_from": ("wheel", "number"),
    },
    "turnings": {
        "come_back": ("wheel",),
        "is_return": ("wheel", "thing"),
        "turning": ("wheel",),
        "own_places": ("wheel",),
        "own_step": ("wheel",),
        "orbit": ("wheel", "place"),
        "after": ("wheel", "number", "beats"),
        "beats_to_own": ("wheel", "place"),
        "come_together": ("wheel", "one", "other"),
    },
    "sides": {
        "gains": ("wheel", "beats"),
        "can_gain": ("wheel", "rounds", "beats"),
        "can_lag": ("wheel", "rounds", "beats"),
        "gainer": ("wheel", "rounds", "beats"),
        "lagger": ("wheel", "rounds", "beats"),
        "is_gainer": ("wheel", "rounds", "beats", "thing"),
        "is_lagger": ("wheel", "rounds", "beats", "thing"),
        "all_short": ("wheel", "rounds", "beats"),
        "all_beyond": ("wheel", "rounds", "beats"),
        "by_gains": ("wheel",),
        "by_lags": ("wheel",),
        "by_walk": ("wheel", "place", "beats"),
        "side_of": ("wheel", "fraction"),
    },
    "backs": {
        "first_back": ("wheel",),
        "last_back": ("wheel",),
        "mirrored": ("wheel",),
        "back_train": ("train",),
        "mirrored_train": ("train",),
        "is_back_pair": ("wheel", "other"),
    },
    "led": {
        "greatest_led": ("places", "number", "ring"),
        "least_led": ("places", "number", "ring"),
        "is_led_by": ("wheel", "places", "number"),
        "led_by": ("wheel", "places"),
        "told_on": ("places", "ring", "number"),
        "last_at": ("places", "ring", "number"),
        "first_at_least": ("places", "ring", "number"),
        "many_led": ("places", "number", "ring"),
        "wheel_between": ("places", "number", "ring", "share"),
    },
    "seen": {
        "seen": ("wheel", "places"),
        "strictly_seen": ("wheel", "places"),
        "seen_over": ("wheel", "places"),
        "all_seen": ("train", "places"),
        "all_strictly_seen": ("train", "places"),
        "left_behind": ("wheel", "places"),
        "are_kept": ("wheel", "places"),
        "kept_within": ("wheel", "places"),
        "places_within": ("places", "ring", "numbers"),
        "keeps_turning": ("wheel", "places"),
        "least_keeping": ("wheel",),
    },
    "words": {
        "is_word": ("thing",),
        "letters_of": ("word",),
        "counts_of": ("word",),
        "word_wheel": ("train", "word"),
        "word_turning": ("train", "word"),
        "stops": ("train", "word", "number"),
        "turned_word": ("word", "number"),
        "least_turned": ("word",),
        "are_turned": ("word", "other"),
        "root_of": ("word",),
        "repeated_word": ("word", "many"),
        "with_wheel": ("train", "letter", "wheel"),
        "added_turns": ("train", "word"),
        "beyond": ("train", "word"),
    },
    "ladders": {
        "is_rung": ("thing",),
        "first_rung": ("train",),
        "next_rung": ("rung",),
        "ladder": ("train",),
        "is_ladder": ("train", "thing"),
        "rung_word": ("rung",),
        "rung_turning": ("rung",),
        "end_of": ("ladder",),
        "ring_of": ("ladder",),
        "bound_of": ("train",),
        "broken_at": ("train", "ladder"),
    },
    "most": {
        "value_at": ("turns", "number"),
        "most": ("turns",),
        "least": ("turns",),
        "bottoms": ("turns",),
        "is_between": ("turns", "fraction"),
        "slack": ("turns",),
    },
}


class ErrorClasses(unittest.TestCase):
    def test_bases(self):
        for name, (base, kept) in ERRORS.items():
            with self.subTest(name=name):
                self.assertEqual(getattr(errors, name).__bases__, (base,))

    def test_there_are_no_others(self):
        own = [name for name, worth in vars(errors).items() if inspect.isclass(worth)]
        self.assertEqual(sorted(own), sorted(ERRORS))

    def test_defined_there(self):
        for name in ERRORS:
            self.assertEqual(getattr(errors, name).__module__, "bothwheels.errors")

    def test_values_are_kept(self):
        for name, (base, kept) in ERRORS.items():
            for worth in (0, -7, 10 ** 30, "a", (1, (2, 3))):
                with self.subTest(name=name, worth=worth):
                    made = getattr(errors, name)(*[worth for key in kept])
                    self.assertEqual(vars(made), {key: worth for key in kept})

    def test_values_by_name(self):
        for name, (base, kept) in ERRORS.items():
            with self.subTest(name=name):
                made = getattr(errors, name)(**{key: 5 for key in kept})
                self.assertEqual(vars(made), {key: 5 for key in kept})

    def test_values_are_needed(self):
        for name, (base, kept) in ERRORS.items():
            if kept:
                with self.subTest(name=name), self.assertRaises(TypeError):
                    getattr(errors, name)()

    def test_caught_by_the_built_in_class_alone(self):
        for name, (base, kept) in ERRORS.items():
            other = ValueError if base is LookupError else LookupError
            made = getattr(errors, name)(*[1 for key in kept])
            self.assertIsInstance(made, base)
            self.assertNotIsInstance(made, other)

    def test_none_is_another_one(self):
        for name in ERRORS:
            for other in ERRORS:
                if name != other:
                    self.assertFalse(issubclass(getattr(errors, name), getattr(errors, other)))


class Functions(unittest.TestCase):
    def each(self):
        """The list of (module, function, names of arguments)."""
        found = []
        for module, functions in FUNCTIONS.items():
            place = importlib.import_module("bothwheels." + module)
            for name, arguments in functions.items():
                self.assertTrue(hasattr(place, name), name + " is lacking")
                found.append((module, getattr(place, name), arguments))
        return found

    def test_arguments(self):
        for module, function, arguments in self.each():
            self.assertEqual(tuple(inspect.signature(function).parameters), arguments, function)

    def test_arguments_by_position_or_name_and_none_left_out(self):
        for module, function, arguments in self.each():
            for parameter in inspect.signature(function).parameters.values():
                self.assertEqual(parameter.kind, inspect.Parameter.POSITIONAL_OR_KEYWORD)
                self.assertEqual(parameter.default, inspect.Parameter.empty)

    def test_defined_in_their_file(self):
        for module, function, arguments in self.each():
            self.assertTrue(inspect.isfunction(function))
            self.assertEqual(function.__module__, "bothwheels." + module)


if __name__ == "__main__":
    unittest.main()
