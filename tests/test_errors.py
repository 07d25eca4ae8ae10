import unittest

from asktally.errors import (
    AskError, NoCount, NoField, NoName, NoNumber, NoRow, NoText, NoTurn, SmallField, TooMany, Twice,
)

FIELDS = (
    (NoText, "row", 3),
    (Twice, "name", "x"),
    (NoName, "name", "y"),
    (NoField, "number", 4),
    (SmallField, "degree", 5),
    (NoRow, "row", 6),
    (NoTurn, "row", 7),
    (NoCount, "row", 8),
    (NoNumber, "row", 9),
    (TooMany, "rows", 4096),
)


class Errors(unittest.TestCase):
    def test_each_is_an_ask_error_and_a_value_error(self):
        for kind, _, value in FIELDS:
            with self.subTest(kind=kind):
                self.assertIsInstance(kind(value), AskError)
                self.assertIsInstance(kind(value), ValueError)

    def test_ask_error_is_a_value_error(self):
        self.assertTrue(issubclass(AskError, ValueError))

    def test_none_is_one_of_the_others(self):
        for kind, _, _ in FIELDS:
            for other, _, _ in FIELDS:
                with self.subTest(kind=kind, other=other):
                    self.assertEqual(issubclass(kind, other), kind is other)

    def test_field_of_the_arguments_name(self):
        for kind, name, value in FIELDS:
            with self.subTest(kind=kind):
                self.assertEqual(getattr(kind(value), name), value)
                self.assertEqual(getattr(kind(**{name: value}), name), value)

    def test_row_zero_stays_zero(self):
        for kind in (NoText, NoRow, NoTurn, NoCount, NoNumber):
            with self.subTest(kind=kind):
                self.assertEqual(kind(0).row, 0)
                self.assertIsNotNone(kind(0).row)

    def test_row_is_none_where_made_of_nothing(self):
        for kind in (NoTurn, NoCount, NoNumber):
            with self.subTest(kind=kind):
                self.assertIsNone(kind().row)

    def test_the_others_need_their_argument(self):
        for kind in (NoText, Twice, NoName, NoField, SmallField, NoRow, TooMany):
            with self.subTest(kind=kind):
                with self.assertRaises(TypeError):
                    kind()

    def test_two_errors_know_nothing_of_each_other(self):
        one, other = NoText(1), NoText(2)
        self.assertEqual((one.row, other.row), (1, 2))


if __name__ == "__main__":
    unittest.main()
