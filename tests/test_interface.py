"""The interface: each name exists in its module, with the arguments of the document."""

import importlib
import inspect
import unittest

FUNCTIONS = {
    "movingup.charts": {
        "check_chart": "(value)",
        "path_to": "(chart, post)",
        "posts_below": "(chart, post)",
        "common_post": "(chart, a, b)",
    },
    "movingup.arrangements": {
        "check_arrangement": "(chart, value)",
        "post_of": "(chart, arrangement, person)",
        "open_posts": "(chart, arrangement)",
        "leave": "(chart, arrangement, *people)",
        "chain": "(chart, arrangement, person)",
        "join": "(chart, arrangement, person, post)",
        "reduced": "(chart, arrangement, people)",
    },
    "movingup.standing": {
        "post_after": "(chart, arrangement, leavers, person)",
        "career": "(chart, arrangement, leavers, person)",
        "count_moves": "(chart, arrangement, leavers)",
        "moves_range": "(chart, arrangement, leavers)",
    },
}


class Interface(unittest.TestCase):
    def test_names_and_arguments(self):
        for place, names in FUNCTIONS.items():
            module = importlib.import_module(place)
            for name, arguments in names.items():
                self.assertEqual(str(inspect.signature(getattr(module, name))), arguments, name)

    def test_each_is_defined_in_its_module(self):
        for place, names in FUNCTIONS.items():
            module = importlib.import_module(place)
            for name in names:
                self.assertEqual(getattr(module, name).__module__, place, name)

    def test_generators(self):
        for place, names in FUNCTIONS.items():
            module = importlib.import_module(place)
            found = [name for name in names if inspect.isgeneratorfunction(getattr(module, name))]
            self.assertEqual(found, ["chain"] if place == "movingup.arrangements" else [])


if __name__ == "__main__":
    unittest.main()
