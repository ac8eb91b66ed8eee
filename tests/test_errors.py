import unittest

from seer import errors

NAMES = [
    "NoStretch", "NoRest", "NoShape", "NoBox", "FixedBox",
    "NoSum", "NoStep", "NoCall", "NoStart", "NoWay",
]
REFUSALS = [getattr(errors, name) for name in NAMES]


class Errors(unittest.TestCase):
    def test_base_is_a_value_error(self):
        self.assertEqual(errors.SeerError.__bases__, (ValueError,))

    def test_each_stands_straight_under_the_base(self):
        for refusal in REFUSALS:
            self.assertEqual(refusal.__bases__, (errors.SeerError,), refusal)
            self.assertTrue(issubclass(refusal, ValueError), refusal)

    def test_none_stands_under_another(self):
        for one in REFUSALS:
            for other in REFUSALS:
                if one is not other:
                    self.assertFalse(issubclass(one, other), (one, other))

    def test_each_bears_its_name(self):
        self.assertEqual([refusal.__name__ for refusal in REFUSALS], NAMES)

    def test_each_is_raised_and_taken_as_the_base(self):
        for refusal in REFUSALS:
            with self.assertRaises(errors.SeerError) as taken:
                raise refusal("words")
            self.assertIs(type(taken.exception), refusal)


if __name__ == "__main__":
    unittest.main()
