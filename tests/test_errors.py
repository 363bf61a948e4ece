"""The interface: the classes of refusals."""

import unittest

from drainhouse import errors

NAMES = (
    "BadHouse", "Known", "NoHouse", "TooMany", "LastHouse", "BadAsker",
    "BadEdition", "BadAsk", "Busy", "NoLetter", "BadCount", "BadText",
)


class Errors(unittest.TestCase):
    def test_any_refusal_is_a_value_error(self):
        self.assertEqual(errors.DrainError.__bases__, (ValueError,))

    def test_each_class_stands_right_below_drain_error(self):
        for name in NAMES:
            with self.subTest(name):
                refusal = getattr(errors, name)
                self.assertEqual(refusal.__bases__, (errors.DrainError,))
                self.assertEqual(refusal.__module__, "drainhouse.errors")

    def test_none_stands_under_another_one(self):
        for name in NAMES:
            above = [other for other in NAMES if issubclass(getattr(errors, name), getattr(errors, other))]
            self.assertEqual(above, [name])

    def test_bad_text_tells_its_place(self):
        for place in (0, 1, 15):
            with self.assertRaises(errors.DrainError) as caught:
                raise errors.BadText(place)
            self.assertEqual(caught.exception.place, place)


if __name__ == "__main__":
    unittest.main()
