import unittest

from fallrow.errors import BadRow, BadSide, BadStone, BadText, FallError


class Classes(unittest.TestCase):
    def test_fall_error_stands_straight_under_value_error(self):
        self.assertEqual(FallError.__bases__, (ValueError,))

    def test_each_refusal_stands_straight_under_fall_error(self):
        for refusal in (BadRow, BadStone, BadSide, BadText):
            self.assertEqual(refusal.__bases__, (FallError,))

    def test_each_refusal_is_called_by_its_name(self):
        names = [refusal.__name__ for refusal in (FallError, BadRow, BadStone, BadSide, BadText)]
        self.assertEqual(names, ["FallError", "BadRow", "BadStone", "BadSide", "BadText"])

    def test_refusals_are_not_one_another(self):
        refusals = (BadRow, BadStone, BadSide, BadText)
        for one in refusals:
            for other in refusals:
                self.assertEqual(issubclass(one, other), one is other)


if __name__ == "__main__":
    unittest.main()
