import unittest

from emptierbox import errors
from tests.things import REFUSALS


class Errors(unittest.TestCase):
    def test_any_refusal_is_a_value_error(self):
        self.assertEqual(errors.BallError.__bases__, (ValueError,))

    def test_each_refusal_stands_straight_under_ball_error(self):
        names = ["NoShare", "NoBall", "Unlike", "Fuller", "TooMany", "NoBack", "NoName", "NoText", "NoRow"]
        self.assertEqual([refusal.__name__ for refusal in REFUSALS], names)
        for name in names:
            self.assertEqual(getattr(errors, name).__bases__, (errors.BallError,))

    def test_none_stands_under_another_one(self):
        for one in REFUSALS:
            for other in REFUSALS:
                self.assertEqual(issubclass(one, other), one is other)

    def test_each_can_be_raised_with_and_without_words(self):
        for refusal in REFUSALS + (errors.BallError,):
            with self.assertRaises(errors.BallError):
                raise refusal("why")
            with self.assertRaises(ValueError):
                raise refusal()


if __name__ == "__main__":
    unittest.main()
