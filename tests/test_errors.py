"""Point 3: the errors."""

import unittest

from allbids import errors

FIELDS = {
    "BadText": ("column",),
    "BadLine": ("line", "column"),
    "BadNumber": ("what", "number"),
    "BadRow": ("row",),
    "BadName": ("name",),
    "Unlike": ("what",),
    "TooMany": ("what", "limit"),
    "TooLarge": ("what", "number", "limit"),
    "NoBuyer": (),
    "NoName": ("name",),
    "TakenName": ("name",),
    "NotKept": ("promise", "witness"),
    "NothingToUndo": (),
    "NothingToRedo": (),
}


class Errors(unittest.TestCase):
    def test_each_is_a_bid_error_and_no_other(self):
        self.assertEqual(errors.BidError.__bases__, (ValueError,))
        for name in FIELDS:
            made = getattr(errors, name)
            self.assertEqual(made.__bases__, (errors.BidError,), name)
            self.assertTrue(issubclass(made, ValueError), name)
            for other in FIELDS:
                self.assertEqual(issubclass(made, getattr(errors, other)), name == other)

    def test_fields_are_kept_as_they_are(self):
        values = [None, [1, [2]], {"a": [1]}, (1, (2, 3)), 10 ** 300, -1, "text", True, object()]
        for name, fields in FIELDS.items():
            for shift in range(len(values)):
                given = [values[(shift + k) % len(values)] for k in range(len(fields))]
                error = getattr(errors, name)(*given)
                for field, value in zip(fields, given):
                    self.assertIs(getattr(error, field), value, (name, field))

    def test_they_can_be_raised_and_caught(self):
        for name, fields in FIELDS.items():
            with self.assertRaises(errors.BidError):
                raise getattr(errors, name)(*fields)

    def test_the_number_of_fields_is_fixed(self):
        for name, fields in FIELDS.items():
            if fields:
                with self.assertRaises(TypeError):
                    getattr(errors, name)()


if __name__ == "__main__":
    unittest.main()
