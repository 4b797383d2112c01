import unittest

from gapring import errors


class ErrorClasses(unittest.TestCase):
    def test_ring_error_stands_straight_under_value_error(self):
        self.assertEqual(errors.RingError.__bases__, (ValueError,))

    def test_each_refusal_stands_straight_under_ring_error(self):
        for name in ("NoRing", "NoSize", "Unlike", "NoBits", "NoNote"):
            with self.subTest(name=name):
                self.assertEqual(getattr(errors, name).__bases__, (errors.RingError,))

    def test_the_refusals_are_five_classes(self):
        refusals = {errors.NoRing, errors.NoSize, errors.Unlike, errors.NoBits, errors.NoNote}
        self.assertEqual(len(refusals), 5)


if __name__ == "__main__":
    unittest.main()
