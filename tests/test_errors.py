"""The interface of alnage/errors.py."""
import unittest

from alnage import errors

FIELDS = {
    "Malformed": {"at": 3},
    "Oversized": {"limit": "text"},
    "Unknown": {"name": "m", "at": 3},
    "Clashing": {"name": "m", "at": 3},
    "Mistaken": {"at": 3, "why": "unit"},
    "Unfit": {"name": "show", "paper": ("m", ((1, 2), (0, 1)))},
    "BadPaper": {"why": "no pair"},
    "BadFactor": {"name": "m"},
    "Mixed": {"at": 3},
    "Halted": {"why": "zero"},
}


class ErrorsTest(unittest.TestCase):
    def test_refused_is_a_value_error(self):
        self.assertEqual(errors.Refused.__bases__, (ValueError,))
        self.assertEqual(errors.Refused.__module__, "alnage.errors")

    def test_all_errors_are_direct_subclasses_of_refused(self):
        for name in FIELDS:
            with self.subTest(name):
                error = getattr(errors, name)
                self.assertEqual(error.__bases__, (errors.Refused,))
                self.assertEqual(error.__module__, "alnage.errors")
                self.assertEqual(error.__name__, name)

    def test_the_arguments_are_fields_by_place(self):
        for name, fields in FIELDS.items():
            with self.subTest(name):
                error = getattr(errors, name)(*fields.values())
                self.assertEqual(vars(error), fields)

    def test_the_arguments_are_fields_by_keyword(self):
        for name, fields in FIELDS.items():
            with self.subTest(name):
                error = getattr(errors, name)(**fields)
                self.assertEqual(vars(error), fields)

    def test_each_argument_is_asked_for(self):
        for name, fields in FIELDS.items():
            with self.subTest(name):
                error = getattr(errors, name)
                with self.assertRaises(TypeError):
                    error(*list(fields.values())[1:])
                with self.assertRaises(TypeError):
                    error(*fields.values(), 1)

    def test_errors_can_be_raised_and_caught_as_refused(self):
        for name, fields in FIELDS.items():
            with self.subTest(name):
                with self.assertRaises(errors.Refused) as caught:
                    raise getattr(errors, name)(*fields.values())
                self.assertEqual(vars(caught.exception), fields)


if __name__ == "__main__":
    unittest.main()
