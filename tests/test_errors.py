"""The refusals: [3] and the interface of stage 1."""

import unittest

from countworks import errors

PLAIN = [
    "BadMaking", "BadNumber", "BadThing", "BadTape", "Ended", "BadSeries", "NotPlain", "BadWord", "BadParts", "Full",
    "Nothing", "BadText",
]
WITH_FIELD = {"BadBook": "wrong", "NoStep": "spot", "NoRule": "lacks"}


class ErrorsTest(unittest.TestCase):
    def test_each_stands_right_under_count_error(self):
        self.assertEqual(errors.CountError.__bases__, (ValueError,))
        for name in PLAIN + list(WITH_FIELD):
            with self.subTest(name=name):
                self.assertEqual(getattr(errors, name).__bases__, (errors.CountError,))
                self.assertEqual(getattr(errors, name).__name__, name)

    def test_no_other_refusals(self):
        classes = [name for name, found in vars(errors).items() if isinstance(found, type)]
        self.assertEqual(sorted(classes), sorted(PLAIN + list(WITH_FIELD) + ["CountError"]))

    def test_fields_are_set_when_created(self):
        for name, field in WITH_FIELD.items():
            for told in (None, ["a", "b"], "a", 0):
                with self.subTest(name=name, told=told):
                    error = getattr(errors, name)(told)
                    self.assertEqual(getattr(error, field), told)
                    self.assertIsInstance(str(error), str)

    def test_plain_ones_take_a_text(self):
        for name in PLAIN:
            with self.subTest(name=name):
                self.assertEqual(str(getattr(errors, name)("why")), "why")


if __name__ == "__main__":
    unittest.main()
