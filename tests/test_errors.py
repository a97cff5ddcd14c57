"""Point 9: the error classes and their fields."""

import unittest

from movingup import errors

FIELDS = {
    "InvalidChart": "reason",
    "InvalidArrangement": "reason",
    "InvalidPost": "post",
    "InvalidPerson": "person",
    "InvalidPeople": "index",
    "InvalidWishes": "reason",
    "InvalidOrder": "reason",
    "InvalidPlan": "reason",
    "PlanBlocked": "index",
    "InvalidNumber": "number",
    "IndexTooLarge": "count",
    "InvalidPrices": "person",
    "InvalidText": "line",
}
WITHOUT_FIELD = ("InvalidLine", "NothingToUndo")
ANY_VALUES = (None, True, 0, -3, 10 ** 899, "", "text", (), ("post", 2), [1, [2]], {"a": None})


class ErrorClasses(unittest.TestCase):
    def test_base_class(self):
        self.assertEqual(errors.MovingUpError.__bases__, (ValueError,))
        self.assertIsInstance(errors.MovingUpError(), ValueError)

    def test_all_others_derive_directly_from_it(self):
        for name in (*FIELDS, *WITHOUT_FIELD):
            self.assertEqual(getattr(errors, name).__bases__, (errors.MovingUpError,), name)

    def test_no_other_classes(self):
        found = {name for name, value in vars(errors).items() if isinstance(value, type)}
        self.assertEqual(found, {"MovingUpError", *FIELDS, *WITHOUT_FIELD})

    def test_field_by_position_and_by_name(self):
        for name, field in FIELDS.items():
            for value in ANY_VALUES:
                by_position = getattr(errors, name)(value)
                by_name = getattr(errors, name)(**{field: value})
                self.assertIs(getattr(by_position, field), value)
                self.assertIs(getattr(by_name, field), value)

    def test_field_is_none_without_a_value(self):
        for name, field in FIELDS.items():
            self.assertEqual(vars(getattr(errors, name)()), {field: None})

    def test_no_argument_without_a_field(self):
        for name in WITHOUT_FIELD:
            self.assertEqual(vars(getattr(errors, name)()), {})

    def test_raised_and_caught_by_the_base_class(self):
        for name in (*FIELDS, *WITHOUT_FIELD):
            with self.assertRaises(errors.MovingUpError):
                raise getattr(errors, name)()


if __name__ == "__main__":
    unittest.main()
