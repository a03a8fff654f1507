"""[20] The errors: their classes, their fields, and the very objects in these."""

import unittest

from helpers import odd_values
from labeltill import errors

FIELDS = {
    "Wrong": "place", "NotLater": "index", "Early": "index", "NoNumber": "number", "NoPrice": "price",
    "NoChange": "index", "NoOrder": "order", "NoIndex": "index", "NoLoss": "loss", "Outside": "index",
    "NoPlace": "place", "Passed": "moment", "Clash": "deed", "Refused": "deed", "NoText": "index",
}
PLAIN = ["Nothing", "NoCommand"]


class ErrorsTest(unittest.TestCase):
    def test_base_classes(self):
        self.assertEqual(errors.LabelError.__bases__, (ValueError,))
        for name in list(FIELDS) + PLAIN:
            self.assertEqual(getattr(errors, name).__bases__, (errors.LabelError,), name)

    def test_there_are_no_others(self):
        found = [name for name, thing in vars(errors).items() if isinstance(thing, type)]
        self.assertEqual(sorted(found), sorted(list(FIELDS) + PLAIN + ["LabelError"]))

    def test_field_is_the_very_object(self):
        for name, field in FIELDS.items():
            for value in odd_values() + [0, 7, 10 ** 999]:
                error = getattr(errors, name)(value)
                self.assertIs(getattr(error, field), value)
                self.assertEqual(list(vars(error)), [field])

    def test_field_is_not_copied(self):
        value = [1]
        error = errors.Refused(value)
        value.append(2)
        self.assertEqual(error.deed, [1, 2])

    def test_made_by_the_name_of_the_argument(self):
        for name, field in FIELDS.items():
            self.assertEqual(getattr(getattr(errors, name)(**{field: "x"}), field), "x")

    def test_arguments_are_needed(self):
        for name in FIELDS:
            with self.assertRaises(TypeError):
                getattr(errors, name)()
            with self.assertRaises(TypeError):
                getattr(errors, name)(1, 2)

    def test_raised_and_caught(self):
        for name in FIELDS:
            for caught in (getattr(errors, name), errors.LabelError, ValueError):
                with self.assertRaises(caught) as context:
                    raise getattr(errors, name)(5)
                self.assertIs(context.exception.__class__, getattr(errors, name))
        for name in PLAIN:
            for caught in (getattr(errors, name), errors.LabelError, ValueError):
                with self.assertRaises(caught):
                    raise getattr(errors, name)()

    def test_one_is_not_caught_as_another(self):
        for name in FIELDS:
            for other in FIELDS:
                self.assertEqual(isinstance(getattr(errors, name)(1), getattr(errors, other)), name == other)

    def test_label_error_of_any_values(self):
        for values in ((), (1,), ("x", None), ([], {}, True)):
            with self.assertRaises(ValueError):
                raise errors.LabelError(*values)

    def test_can_be_shown(self):
        for name in FIELDS:
            for value in odd_values():
                self.assertIsInstance(str(getattr(errors, name)(value)), str)
                self.assertIsInstance(repr(getattr(errors, name)(value)), str)


if __name__ == "__main__":
    unittest.main()
