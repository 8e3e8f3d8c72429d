"""The interface: names, arguments, and where they are defined."""

import importlib
import inspect
import unittest

INTERFACE = {
    "grids": {
        "is_point": ["thing"], "is_steps": ["thing"], "product": ["one", "other"],
        "room": ["steps"], "reached": ["steps", "numbers"],
        "numbers_of": ["steps", "point"], "is_same": ["steps", "other"],
    },
    "texts": {"show": ["steps"], "read": ["text"]},
    "short": {
        "is_short": ["pair"], "is_moves": ["thing"], "moved": ["pair", "moves"],
        "moves_for": ["pair"], "short_pair": ["pair"], "least_points": ["pair"],
    },
    "shapes": {
        "products": ["pair"], "shape": ["pair"], "is_shape": ["thing"],
        "is_leading": ["thing", "pair", "other"], "leading": ["pair", "other"],
        "is_ahead": ["one", "other"], "room_squared": ["shape"],
    },
    "turns": {
        "is_keeper": ["thing", "pair"], "keepers": ["pair"],
        "behind": ["pair", "one", "other"], "undoing": ["pair", "keeper"],
        "often": ["pair", "keeper"], "mirrors_many": ["pair"],
    },
    "points": {
        "many_of": ["pair", "number"], "up_to": ["pair", "number"],
        "nearest_length": ["pair", "point"], "nearest": ["pair", "point"],
    },
    "threes": {
        "is_four": ["thing", "steps"], "is_blunt": ["steps", "four"],
        "folded": ["steps", "four", "folds"], "folds_for": ["steps"],
        "blunt_four": ["steps"], "least_of_three": ["steps"],
    },
    "parts": {
        "flat": ["pair"], "is_part": ["one", "other"], "times_of": ["one", "other"],
        "parts_of": ["pair", "number"], "both_have": ["one", "other"],
        "both_make": ["one", "other"],
    },
    "forms": {
        "taken_at": ["shape", "number"], "shapes_of": ["number"], "is_fine": ["shape"],
        "takers": ["number", "taken"],
    },
    "changes": {
        "grown": ["pair", "number"], "turned": ["pair"], "mirrored": ["pair"],
        "keeps_turned": ["pair"], "keeps_mirrored": ["pair"], "mates": ["pair"],
    },
}

ERRORS = [
    "NoSteps", "NoPair", "NoPoint", "NoNumber", "NoMoves", "NoShape", "NoKeeper",
    "NoThree", "NoFour", "NoPart", "NoText", "NoLine",
]


class InterfaceTest(unittest.TestCase):

    def test_functions_stand_in_their_files(self):
        for file, functions in INTERFACE.items():
            module = importlib.import_module("shortsteps." + file)
            for name, arguments in functions.items():
                with self.subTest(file=file, name=name):
                    function = getattr(module, name)
                    self.assertTrue(inspect.isfunction(function))
                    self.assertEqual(function.__module__, "shortsteps." + file)
                    self.assertEqual(function.__name__, name)
                    self.assertEqual(list(inspect.signature(function).parameters), arguments)

    def test_the_desk_stands_in_its_file(self):
        desk = importlib.import_module("shortsteps.desk").Desk
        self.assertTrue(inspect.isclass(desk))
        self.assertEqual(desk.__module__, "shortsteps.desk")
        self.assertEqual(desk.__name__, "Desk")
        self.assertEqual(list(inspect.signature(desk).parameters), [])
        self.assertTrue(inspect.isfunction(vars(desk)["say"]))
        self.assertEqual(list(inspect.signature(desk.say).parameters), ["self", "line"])

    def test_5_each_error_stands_straight_under_step_error(self):
        errors = importlib.import_module("shortsteps.errors")
        self.assertEqual(errors.StepError.__bases__, (ValueError,))
        self.assertEqual(errors.StepError.__module__, "shortsteps.errors")
        for name in ERRORS:
            with self.subTest(name=name):
                kind = getattr(errors, name)
                self.assertEqual(kind.__bases__, (errors.StepError,))
                self.assertEqual(kind.__module__, "shortsteps.errors")
                self.assertEqual(kind.__name__, name)

    def test_errors_are_made_of_a_text(self):
        errors = importlib.import_module("shortsteps.errors")
        for name in ERRORS + ["StepError"]:
            with self.subTest(name=name):
                kind = getattr(errors, name)
                with self.assertRaises(ValueError) as caught:
                    raise kind("some text")
                self.assertIs(type(caught.exception), kind)


if __name__ == "__main__":
    unittest.main()
