import unittest

from asktally.errors import NoRow
from asktally.helpers import look_helper
from helper import refusal

ONE = ("num", 1)
SAY, SET, END = ("say", ONE), ("set", "x", ONE), ("end",)


class LookHelper(unittest.TestCase):
    def refused(self, helper, row):
        error = refusal(look_helper, helper)
        self.assertIs(error.__class__, NoRow, helper)
        self.assertEqual(error.row, row, helper)

    def let_by(self, helper):
        self.assertIs(look_helper(helper), True)

    def test_without_rows(self):
        self.let_by(())

    def test_rows_that_go_nowhere(self):
        self.let_by((SAY,))
        self.let_by((SAY, SET, END))
        self.let_by((("say", ("num", 999999999999)), ("set", "go", ("num", 77))))
        self.let_by((("say", ("op", "<", ("num", 5), ("num", 9))),))

    def test_each_row_of_its_own(self):
        for many in (1, 2, 3, 60):
            for k in range(many):
                for place in range(many):
                    rows = [SAY] * many
                    for row in (("go", k), ("if", ONE, k)):
                        rows[place] = row
                        self.let_by(tuple(rows))

    def test_just_the_number_of_rows(self):
        self.refused((("go", 1),), 0)
        self.refused((("if", ONE, 1),), 0)
        self.refused((SAY, ("go", 2)), 1)
        self.refused((SAY, ("if", ONE, 3), END), 1)
        self.refused((END,) * 59 + (("go", 60),), 59)

    def test_far_above(self):
        self.refused((("go", 999999999999),), 0)
        self.refused((SAY, SET, ("if", ONE, 100)), 2)

    def test_the_first_row_is_told(self):
        self.refused((("go", 0), ("if", ONE, 9), ("go", 9), ("go", 1)), 1)
        self.refused((("go", 0), ("go", 9), ("if", ONE, 9), ("go", 1)), 1)
        self.refused((("if", ONE, 3), ("go", 4), ("go", 3)), 0)
        self.refused((("if", ONE, 2), ("go", 0), ("go", 3)), 2)

    def test_other_numbers_in_a_row_play_no_part(self):
        self.let_by((("if", ("num", 9), 0),))
        self.refused((("if", ("num", 0), 9),), 0)

    def test_same_answer_at_any_time(self):
        helper = (("go", 0), ("go", 2))
        self.refused(helper, 1)
        self.let_by((("go", 0),))
        self.refused(helper, 1)


if __name__ == "__main__":
    unittest.main()
