"""The error classes: their bases and their fields."""

import unittest

from halfquick import errors

FIELDS = {
    "InvalidPlan": "place",
    "InvalidPlace": "place",
    "InvalidValues": "index",
    "InvalidPasses": "passes",
    "InvalidSteps": "steps",
    "InvalidNumber": "number",
    "InvalidText": "line",
    "TooMany": "count",
    "NoPart": "place",
}
WITHOUT_FIELDS = ["NotOnePlan", "NothingToUndo"]
LOOKUPS = ["NoPart", "NothingToUndo"]


class Errors(unittest.TestCase):
    def test_each_error_derives_from_its_base_alone(self):
        for name in [*FIELDS, *WITHOUT_FIELDS]:
            base = LookupError if name in LOOKUPS else ValueError
            self.assertEqual(getattr(errors, name).__bases__, (base,), name)

    def test_each_error_is_defined_in_its_file(self):
        for name in [*FIELDS, *WITHOUT_FIELDS]:
            self.assertEqual(getattr(errors, name).__module__, "halfquick.errors")

    def test_a_field_holds_what_was_passed(self):
        for name, field in FIELDS.items():
            for thing in (3, None, "text", [1], 10 ** 5000):
                error = getattr(errors, name)(thing)
                self.assertIs(getattr(error, field), thing)
                self.assertEqual(vars(error), {field: thing})

    def test_errors_without_fields(self):
        for name in WITHOUT_FIELDS:
            self.assertEqual(vars(getattr(errors, name)()), {})

    def test_errors_can_be_shown(self):
        for name in FIELDS:
            self.assertIsInstance(str(getattr(errors, name)(10 ** 5000)), str)


if __name__ == "__main__":
    unittest.main()
