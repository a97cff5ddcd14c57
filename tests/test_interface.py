"""The interface: each name exists in its module, with the arguments of the document."""

import importlib
import inspect
import unittest

from movingup.desk import Desk
from movingup.office import Office, StrictOffice

FUNCTIONS = {
    "movingup.charts": {
        "check_chart": "(value)",
        "path_to": "(chart, post)",
        "posts_below": "(chart, post)",
        "common_post": "(chart, a, b)",
    },
    "movingup.arrangements": {
        "check_arrangement": "(chart, value)",
        "post_of": "(chart, arrangement, person)",
        "open_posts": "(chart, arrangement)",
        "leave": "(chart, arrangement, *people)",
        "chain": "(chart, arrangement, person)",
        "join": "(chart, arrangement, person, post)",
        "reduced": "(chart, arrangement, people)",
    },
    "movingup.standing": {
        "post_after": "(chart, arrangement, leavers, person)",
        "career": "(chart, arrangement, leavers, person)",
        "count_moves": "(chart, arrangement, leavers)",
        "moves_range": "(chart, arrangement, leavers)",
    },
    "movingup.wishes": {
        "check_wishes": "(chart, arrangement, value)",
        "count_leavers": "(chart, arrangement, wishes, size, *, staying=())",
        "leavers_at": "(chart, arrangement, wishes, size, index, *, staying=())",
        "each_leavers": "(chart, arrangement, wishes, size, *, staying=())",
        "fewest_leavers": "(chart, arrangement, wishes, *, staying=())",
        "cheapest_leavers": "(chart, arrangement, wishes, prices, *, staying=())",
    },
    "movingup.backward": {
        "departures": "(chart, before, after)",
        "count_earlier": "(chart, arrangement, count)",
        "earlier_at": "(chart, arrangement, people, index)",
        "each_earlier": "(chart, arrangement, people)",
        "posts_of_joining": "(chart, before, people)",
        "earlier_index": "(chart, before, people)",
    },
    "movingup.orders": {
        "check_order": "(chart, value)",
        "count_orders": "(chart)",
        "order_at": "(chart, index)",
        "order_index": "(chart, order)",
        "order_of": "(chart, arrangement)",
    },
    "movingup.changes": {
        "check_plan": "(chart, value)",
        "play": "(chart, arrangement, plan)",
        "largest_stay": "(chart, before, after)",
        "count_changes": "(chart, before, after)",
        "fewest_changes": "(chart, before, after)",
        "check_changes": "(chart, before, after, claim)",
        "count_stays": "(chart, before, after, size)",
    },
    "movingup.forecast": {
        "holders_after": "(chart, arrangement, post, size)",
        "count_reaching": "(chart, arrangement, person, post)",
        "highest_posts": "(chart, arrangement, person)",
    },
    "movingup.texts": {
        "show": "(chart, arrangement)",
        "read": "(text)",
    },
    "movingup.office": {
        "Office": "(chart, arrangement)",
        "StrictOffice": "(chart, arrangement)",
    },
    "movingup.desk": {
        "Desk": "(chart)",
    },
}
METHODS = {
    "Office": {
        "leave": "(self, *people)",
        "admit": "(self, person, post)",
        "play": "(self, plan)",
        "undo": "(self)",
        "preview": "(self, *people)",
        "rehearse": "(self, plan)",
        "log": "(self)",
        "at": "(self, step)",
        "posts_of": "(self, person)",
        "copy": "(self)",
    },
    "StrictOffice": {
        "admit": "(self, person, post)",
        "play": "(self, plan)",
        "rehearse": "(self, plan)",
    },
    "Desk": {
        "say": "(self, line)",
    },
}
GENERATORS = {
    "movingup.arrangements": ["chain"], "movingup.wishes": ["each_leavers"], "movingup.backward": ["each_earlier"]}


class Interface(unittest.TestCase):
    def test_names_and_arguments(self):
        for place, names in FUNCTIONS.items():
            module = importlib.import_module(place)
            for name, arguments in names.items():
                self.assertEqual(str(inspect.signature(getattr(module, name))), arguments, name)

    def test_each_is_defined_in_its_module(self):
        for place, names in FUNCTIONS.items():
            module = importlib.import_module(place)
            for name in names:
                self.assertEqual(getattr(module, name).__module__, place, name)

    def test_generators(self):
        for place, names in FUNCTIONS.items():
            module = importlib.import_module(place)
            found = [name for name in names if inspect.isgeneratorfunction(getattr(module, name))]
            self.assertEqual(found, GENERATORS.get(place, []))

    def test_methods_stand_in_their_classes(self):
        classes = {"Office": Office, "StrictOffice": StrictOffice, "Desk": Desk}
        for name, methods in METHODS.items():
            for method, arguments in methods.items():
                self.assertEqual(str(inspect.signature(vars(classes[name])[method])), arguments, method)

    def test_class_methods_properties_and_operators(self):
        own = vars(Office)
        self.assertEqual(own["WORDS"], ("leave", "join"))
        for name, arguments in (("in_order", "(chart, order, people)"), ("vacant", "(chart)")):
            self.assertIsInstance(own[name], classmethod)
            for kind in (Office, StrictOffice):
                self.assertEqual(str(inspect.signature(getattr(kind, name))), arguments)
        for name in ("chart", "arrangement", "people", "head"):
            self.assertIsInstance(own[name], property)
        for name in ("__init__", "__len__", "__contains__", "__eq__"):
            self.assertTrue(inspect.isfunction(own[name]))
        self.assertEqual(StrictOffice.__bases__, (Office,))


if __name__ == "__main__":
    unittest.main()
