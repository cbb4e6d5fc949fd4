import unittest

from knavehall.errors import HallError, NoText, NoWorld


class ErrorsTest(unittest.TestCase):
    def test_hall_error_is_a_value_error(self):
        self.assertTrue(issubclass(HallError, ValueError))
        self.assertIsNot(HallError, ValueError)

    def test_refusals_are_taken_by_hall_error_and_value_error(self):
        for refusal in (NoText, NoWorld):
            for taken_by in (refusal, HallError, ValueError):
                with self.subTest(refusal=refusal, taken_by=taken_by):
                    with self.assertRaises(taken_by):
                        raise refusal("words")

    def test_neither_refusal_lies_below_the_other(self):
        self.assertFalse(issubclass(NoText, NoWorld))
        self.assertFalse(issubclass(NoWorld, NoText))
        self.assertFalse(issubclass(HallError, (NoText, NoWorld)))


if __name__ == "__main__":
    unittest.main()
