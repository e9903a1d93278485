import unittest

from thronewalk import errors

NAMES = ("NoHouse", "NoBook", "NoRule", "NoLine", "NoPlace", "NoScroll", "Unlike", "TooMany", "NoEntry", "NoText")


class Errors(unittest.TestCase):
    def test_throne_error_stands_under_value_error(self):
        self.assertTrue(issubclass(errors.ThroneError, ValueError))
        self.assertIsInstance(errors.ThroneError(), ValueError)

    def test_all_ten_are_made_without_arguments_and_stand_under_throne_error(self):
        for name in NAMES:
            made = getattr(errors, name)()
            self.assertIsInstance(made, errors.ThroneError)
            self.assertEqual(type(made).__name__, name)
            self.assertEqual(type(made).__module__, "thronewalk.errors")

    def test_none_of_the_ten_stands_under_another(self):
        for one in NAMES:
            for other in NAMES:
                under = issubclass(getattr(errors, one), getattr(errors, other))
                self.assertEqual(under, one == other)
            self.assertFalse(issubclass(errors.ThroneError, getattr(errors, one)))


if __name__ == "__main__":
    unittest.main()
