"""Point 2 and the list of error classes of the interface."""

import unittest

from parcelmend import errors
from parcelmend.parceltexts import read_shelf

REFUSALS = (
    "NoParcel", "NoStand", "TooWide", "Fallen", "NotUp", "NoPath", "NoName", "NoFormer", "NoRow", "NoFile", "NoShelf",
)


class ErrorsTest(unittest.TestCase):
    def test_base_is_a_value_error(self):
        self.assertTrue(issubclass(errors.MendError, ValueError))

    def test_each_refusal_is_there_under_the_base(self):
        for name in REFUSALS:
            with self.subTest(name=name):
                refusal = getattr(errors, name)
                self.assertTrue(issubclass(refusal, errors.MendError))
                self.assertIsNot(refusal, errors.MendError)

    def test_no_refusal_stands_under_another_one(self):
        for name in REFUSALS:
            for other in REFUSALS:
                if name != other:
                    with self.subTest(name=name, other=other):
                        self.assertFalse(issubclass(getattr(errors, name), getattr(errors, other)))

    def test_a_refusal_is_taken_by_the_base(self):
        with self.assertRaises(errors.MendError) as caught:
            read_shelf("parcel a 1 0\nno")
        self.assertEqual(caught.exception.line, 1)


if __name__ == "__main__":
    unittest.main()
