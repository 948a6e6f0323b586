"""The interface: errors, names of functions, their arguments, the files in which they stand."""

import importlib
import inspect
import unittest

from bothwheels import errors
from bothwheels.desk import Desk

ERRORS = {
    "NoLetter": (LookupError, ("letter",)),
    "NoPlace": (LookupError, ("place",)),
    "NothingDone": (LookupError, ()),
    "BadText": (ValueError, ("line",)),
    "Broken": (ValueError, ("place",)),
    "CanNot": (ValueError, ()),
    "TooMany": (ValueError, ()),
    "Unfit": (ValueError, ()),
}

FUNCTIONS = {
    "signs": {
        "pieces": ("text",),
        "text_of": ("pieces",),
        "number_of": ("piece",),
        "piece_of": ("number",),
        "fraction_of": ("piece",),
        "fraction_piece": ("fraction",),
    },
    "fractions": {
        "is_fraction": ("thing",),
        "fraction": ("above", "below"),
        "added": ("one", "other"),
        "less": ("one", "other"),
        "negative": ("one",),
        "times": ("one", "number"),
        "compared": ("one", "other"),
        "less_than": ("one", "other"),
        "floor_of": ("one",),
        "ceiling_of": ("one",),
        "floor_times": ("one", "number"),
        "ceiling_times": ("one", "number"),
        "simplest": ("one", "other"),
        "least_bottom_between": ("one", "other"),
        "between": ("one", "other", "most"),
        "common_bottom": ("fractions",),
    },
    "wheels": {
        "is_wheel": ("thing",),
        "is_train": ("thing",),
        "leads": ("wheel", "number"),
        "shift": ("places", "steps"),
        "is_shift": ("wheel",),
        "steps_of": ("wheel",),
        "put_together": ("train",),
        "power": ("wheel", "beats"),
        "finer": ("wheel", "many"),
        "from_elsewhere": ("wheel", "number"),
        "is_at_most": ("wheel", "other"),
        "slips_of": ("wheel",),
        "led_places": ("wheel",),
        "led_from": ("wheel", "number"),
    },
    "turnings": {
        "come_back": ("wheel",),
        "is_return": ("wheel", "thing"),
        "turning": ("wheel",),
        "own_places": ("wheel",),
        "own_step": ("wheel",),
        "orbit": ("wheel", "place"),
        "after": ("wheel", "number", "beats"),
        "beats_to_own": ("wheel", "place"),
        "come_together": ("wheel", "one", "other"),
    },
    "sides": {
        "gains": ("wheel", "beats"),
        "can_gain": ("wheel", "rounds", "beats"),
        "can_lag": ("wheel", "rounds", "beats"),
        "gainer": ("wheel", "rounds", "beats"),
        "lagger": ("wheel", "rounds", "beats"),
        "is_gainer": ("wheel", "rounds", "beats", "thing"),
        "is_lagger": ("wheel", "rounds", "beats", "thing"),
        "all_short": ("wheel", "rounds", "beats"),
        "all_beyond": ("wheel", "rounds", "beats"),
        "by_gains": ("wheel",),
        "by_lags": ("wheel",),
        "by_walk": ("wheel", "place", "beats"),
        "side_of": ("wheel", "fraction"),
    },
    "backs": {
        "first_back": ("wheel",),
        "last_back": ("wheel",),
        "mirrored": ("wheel",),
        "back_train": ("train",),
        "mirrored_train": ("train",),
        "is_back_pair": ("wheel", "other"),
    },
    "led": {
        "greatest_led": ("places", "number", "ring"),
        "least_led": ("places", "number", "ring"),
        "is_led_by": ("wheel", "places", "number"),
        "led_by": ("wheel", "places"),
        "told_on": ("places", "ring", "number"),
        "last_at": ("places", "ring", "number"),
        "first_at_least": ("places", "ring", "number"),
        "many_led": ("places", "number", "ring"),
        "wheel_between": ("places", "number", "ring", "share"),
    },
    "seen": {
        "seen": ("wheel", "places"),
        "strictly_seen": ("wheel", "places"),
        "seen_over": ("wheel", "places"),
        "all_seen": ("train", "places"),
        "all_strictly_seen": ("train", "places"),
        "left_behind": ("wheel", "places"),
        "are_kept": ("wheel", "places"),
        "kept_within": ("wheel", "places"),
        "places_within": ("places", "ring", "numbers"),
        "keeps_turning": ("wheel", "places"),
        "least_keeping": ("wheel",),
    },
    "words": {
        "is_word": ("thing",),
        "letters_of": ("word",),
        "counts_of": ("word",),
        "word_wheel": ("train", "word"),
        "word_turning": ("train", "word"),
        "stops": ("train", "word", "number"),
        "turned_word": ("word", "number"),
        "least_turned": ("word",),
        "are_turned": ("word", "other"),
        "root_of": ("word",),
        "repeated_word": ("word", "many"),
        "with_wheel": ("train", "letter", "wheel"),
        "added_turns": ("train", "word"),
        "beyond": ("train", "word"),
    },
    "ladders": {
        "is_rung": ("thing",),
        "first_rung": ("train",),
        "next_rung": ("rung",),
        "ladder": ("train",),
        "is_ladder": ("train", "thing"),
        "rung_word": ("rung",),
        "rung_turning": ("rung",),
        "end_of": ("ladder",),
        "ring_of": ("ladder",),
        "bound_of": ("train",),
        "broken_at": ("train", "ladder"),
    },
    "most": {
        "value_at": ("turns", "number"),
        "most": ("turns",),
        "least": ("turns",),
        "bottoms": ("turns",),
        "is_between": ("turns", "fraction"),
        "slack": ("turns",),
    },
    "makers": {
        "raised": ("wheel", "fraction"),
        "is_raised": ("wheel", "fraction", "thing"),
        "lowered": ("wheel", "fraction"),
        "is_lowered": ("wheel", "fraction", "thing"),
        "reached": ("turns",),
        "is_reached": ("turns", "thing"),
        "lowest": ("turns",),
        "is_lowest": ("turns", "thing"),
    },
    "rows": {
        "is_row": ("thing",),
        "many_rows": ("numbers",),
        "rows": ("numbers",),
        "led_train": ("row", "numbers"),
        "row_of": ("train",),
        "row_turning": ("word", "row", "numbers"),
        "most_of": ("word", "turns"),
        "best_row": ("word", "turns"),
        "least_of": ("word", "turns"),
        "bar": ("word", "turns", "fraction"),
        "is_bar": ("word", "turns", "fraction", "thing"),
    },
    "texts": {
        "train_text": ("train",),
        "rungs_text": ("rungs",),
        "wishes_text": ("wishes",),
        "read_train": ("text",),
        "read_rungs": ("text",),
        "read_wishes": ("text",),
        "is_wish": ("thing",),
        "is_rungs": ("thing",),
    },
    "teeth": {
        "lesser": ("wheel", "other"),
        "greater": ("wheel", "other"),
        "teeth": ("wheel",),
        "with_tooth": ("wheel", "tooth"),
        "behind_plan": ("wheel", "plan"),
        "turnings_along": ("wheel", "plan"),
        "teeth_between": ("wheel", "other"),
        "plan": ("wheel", "other"),
        "is_plan": ("wheel", "other", "thing"),
        "row_wheel": ("row", "goal", "ring"),
        "fewest": ("wheel", "goal"),
        "fewest_plan": ("wheel", "goal"),
        "is_fewest_plan": ("wheel", "goal", "thing"),
    },
    "stairs": {
        "can": ("word", "turns", "fraction"),
        "most_bottoms": ("word", "fraction"),
        "just_below": ("fraction", "most"),
        "least_beside": ("word", "fraction", "letter", "turn"),
        "corners": ("word", "fraction"),
        "is_corner": ("word", "fraction", "thing"),
        "corner_paper": ("word", "fraction", "turns"),
        "is_corner_paper": ("word", "fraction", "turns", "thing"),
    },
    "goals": {
        "way_of": ("wheel", "place"),
        "first_at": ("wheel", "place", "goal"),
        "last_below": ("wheel", "place", "goal"),
        "first_passed": ("wheel", "place", "other", "far"),
        "meeting": ("wheel", "place", "other", "far"),
        "meeting_place": ("wheel", "place", "other", "far"),
        "slowest": ("wheel", "rounds"),
        "quickest": ("wheel", "rounds"),
    },
    "judge": {
        "is_demand": ("thing",),
        "is_so": ("demand",),
        "paper_against": ("demand",),
        "is_paper_against": ("demand", "thing"),
        "reason_for": ("demand",),
        "is_reason_for": ("demand", "thing"),
        "first_fallen": ("demands",),
    },
}

# The methods of Desk, with their arguments behind the object itself.
METHODS = {
    "say": ("text",),
    "names": (),
    "wheel": ("name",),
    "undo": (),
    "redo": (),
    "twin": (),
}


class ErrorClasses(unittest.TestCase):
    def test_bases(self):
        for name, (base, kept) in ERRORS.items():
            with self.subTest(name=name):
                self.assertEqual(getattr(errors, name).__bases__, (base,))

    def test_there_are_no_others(self):
        own = [name for name, worth in vars(errors).items() if inspect.isclass(worth)]
        self.assertEqual(sorted(own), sorted(ERRORS))

    def test_defined_there(self):
        for name in ERRORS:
            self.assertEqual(getattr(errors, name).__module__, "bothwheels.errors")

    def test_values_are_kept(self):
        for name, (base, kept) in ERRORS.items():
            for worth in (0, -7, 10 ** 30, "a", (1, (2, 3))):
                with self.subTest(name=name, worth=worth):
                    made = getattr(errors, name)(*[worth for key in kept])
                    self.assertEqual(vars(made), {key: worth for key in kept})

    def test_values_by_name(self):
        for name, (base, kept) in ERRORS.items():
            with self.subTest(name=name):
                made = getattr(errors, name)(**{key: 5 for key in kept})
                self.assertEqual(vars(made), {key: 5 for key in kept})

    def test_values_are_needed(self):
        for name, (base, kept) in ERRORS.items():
            if kept:
                with self.subTest(name=name), self.assertRaises(TypeError):
                    getattr(errors, name)()

    def test_caught_by_the_built_in_class_alone(self):
        for name, (base, kept) in ERRORS.items():
            other = ValueError if base is LookupError else LookupError
            made = getattr(errors, name)(*[1 for key in kept])
            self.assertIsInstance(made, base)
            self.assertNotIsInstance(made, other)

    def test_none_is_another_one(self):
        for name in ERRORS:
            for other in ERRORS:
                if name != other:
                    self.assertFalse(issubclass(getattr(errors, name), getattr(errors, other)))


class Functions(unittest.TestCase):
    def each(self):
        """The list of (module, function, names of arguments)."""
        found = []
        for module, functions in FUNCTIONS.items():
            place = importlib.import_module("bothwheels." + module)
            for name, arguments in functions.items():
                self.assertTrue(hasattr(place, name), name + " is lacking")
                found.append((module, getattr(place, name), arguments))
        return found

    def test_arguments(self):
        for module, function, arguments in self.each():
            self.assertEqual(tuple(inspect.signature(function).parameters), arguments, function)

    def test_arguments_by_position_or_name_and_none_left_out(self):
        for module, function, arguments in self.each():
            for parameter in inspect.signature(function).parameters.values():
                self.assertEqual(parameter.kind, inspect.Parameter.POSITIONAL_OR_KEYWORD)
                self.assertEqual(parameter.default, inspect.Parameter.empty)

    def test_defined_in_their_file(self):
        for module, function, arguments in self.each():
            self.assertTrue(inspect.isfunction(function))
            self.assertEqual(function.__module__, "bothwheels." + module)


class TheDesk(unittest.TestCase):
    def test_made_without_arguments(self):
        self.assertEqual(tuple(inspect.signature(Desk).parameters), ())
        self.assertEqual(Desk.__module__, "bothwheels.desk")
        self.assertEqual(Desk.__bases__, (object,))

    def test_methods_stand_in_the_class_itself(self):
        for name, arguments in METHODS.items():
            self.assertIn(name, vars(Desk))
            parameters = list(inspect.signature(vars(Desk)[name]).parameters.values())[1:]
            self.assertEqual(tuple([own.name for own in parameters]), arguments, name)
            for parameter in parameters:
                self.assertEqual(parameter.kind, inspect.Parameter.POSITIONAL_OR_KEYWORD)
                self.assertEqual(parameter.default, inspect.Parameter.empty)
        self.assertIn("__eq__", vars(Desk))


class TheDocument(unittest.TestCase):
    """All names of the interface are looked at above."""

    MANY = {
        "signs": 6, "fractions": 16, "wheels": 14, "turnings": 9, "sides": 13, "backs": 6, "led": 9, "seen": 11, "words": 14,
        "ladders": 11, "most": 6, "makers": 8, "rows": 11, "texts": 8, "teeth": 13, "stairs": 8, "goals": 8, "judge": 7,
    }

    def test_how_many_names_each_file_has(self):
        self.assertEqual({module: len(functions) for module, functions in FUNCTIONS.items()}, self.MANY)


if __name__ == "__main__":
    unittest.main()
