import unittest

from cotreehall.errors import HallError, NoKind, NoName, NoPoint, NoRow, NoText, NoTie, NoWeb

SEVEN = [NoPoint, NoWeb, NoTie, NoText, NoKind, NoRow, NoName]


class ErrorsTest(unittest.TestCase):
    def test_hall_error_stands_straight_under_value_error(self):
        self.assertEqual(HallError.__bases__, (ValueError,))

    def test_each_of_the_seven_stands_straight_under_hall_error(self):
        for error in SEVEN:
            self.assertEqual(error.__bases__, (HallError,), error)

    def test_none_of_the_seven_stands_under_another(self):
        for one in SEVEN:
            for other in SEVEN:
                self.assertEqual(issubclass(one, other), one is other, (one, other))

    def test_each_bears_its_name(self):
        names = [error.__name__ for error in SEVEN]
        self.assertEqual(names, ["NoPoint", "NoWeb", "NoTie", "NoText", "NoKind", "NoRow", "NoName"])

    def test_each_is_taken_as_any_refusal(self):
        for error in SEVEN:
            with self.assertRaises(HallError):
                raise error("no")
            with self.assertRaises(ValueError):
                raise error("no")
