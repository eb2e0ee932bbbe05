import unittest

from turnletters import errors

OF_A_TEXT = (errors.NoWeb, errors.NoWord, errors.NoPlace, errors.NoNumber,
             errors.NoRun, errors.TooMany, errors.NoLine)
ALL = OF_A_TEXT + (errors.NoText,)


def made(kind):
    return kind(3) if kind is errors.NoText else kind("some text")


class Errors(unittest.TestCase):
    """[5]: each refusal stands straight under TurnError, and under none of the others."""

    def test_turn_error_stands_under_value_error(self):
        self.assertEqual(errors.TurnError.__bases__, (ValueError,))
        self.assertIsInstance(errors.TurnError("some text"), ValueError)

    def test_each_stands_straight_under_turn_error(self):
        for kind in ALL:
            with self.subTest(kind=kind.__name__):
                self.assertEqual(kind.__bases__, (errors.TurnError,))

    def test_each_can_be_made_and_raised(self):
        for kind in ALL:
            with self.subTest(kind=kind.__name__):
                error = made(kind)
                self.assertIsInstance(error, errors.TurnError)
                self.assertIsInstance(error, ValueError)
                with self.assertRaises(kind):
                    raise error

    def test_none_is_another_one(self):
        for kind in ALL:
            for other in ALL:
                with self.subTest(kind=kind.__name__, other=other.__name__):
                    self.assertEqual(isinstance(made(kind), other), kind is other)

    def test_a_text_is_kept_as_the_message(self):
        for kind in OF_A_TEXT:
            with self.subTest(kind=kind.__name__):
                self.assertEqual(str(kind("some text")), "some text")

    def test_no_text_keeps_its_number(self):
        for at in (0, 1, 15, 10 ** 30):
            with self.subTest(at=at):
                error = errors.NoText(at)
                self.assertEqual(error.at, at)
                self.assertIs(type(error.at), int)

    def test_no_text_of_unlike_numbers_is_unlike(self):
        one, other = errors.NoText(1), errors.NoText(2)
        self.assertEqual((one.at, other.at), (1, 2))


if __name__ == "__main__":
    unittest.main()
