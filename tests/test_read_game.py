import unittest

from asktally.errors import NoText
from asktally.reader import read_game
from helper import FORMS, broad, nested_nots, refusal

X, Y = ("is", "x"), ("is", "y")
GAME = "field 7\nswitches x y\nholds (x and y)\nholds not x"
READ = (("x", "y"), (("and", X, Y), ("not", X)), 7)


class ReadGame(unittest.TestCase):
    def refused(self, text, row):
        error = refusal(read_game, text)
        self.assertIs(error.__class__, NoText, repr(text))
        self.assertEqual(error.row, row, repr(text))
        self.assertIs(error.row.__class__, int)

    def read(self, text, game):
        told = read_game(text)
        self.assertEqual(told, game)
        self.assertEqual([part.__class__ for part in told], [tuple, tuple, int])

    def test_a_game(self):
        self.read(GAME, READ)

    def test_number_of_switches(self):
        names = ("a", "b", "c", "d", "e", "f")
        for many in range(7):
            row = " ".join(("switches",) + names[:many])
            self.read(f"field 5\n{row}\nholds yes", (names[:many], (("yes",),), 5))
        self.refused("field 5\nswitches a b c d e f g\nholds yes", 1)
        self.refused("field 5\nswitches a b c d e f g", 1)

    def test_number_of_trees(self):
        for many in range(1, 5):
            self.read("field 5\nswitches x" + "\nholds x" * many, (("x",), (X,) * many, 5))
        self.refused("field 5\nswitches x" + "\nholds x" * 5, 6)
        self.refused("field 5\nswitches x" + "\nholds x" * 6, 6)
        self.refused("field 5\nswitches x" + "\nholds x" * 5 + "\n", 6)
        self.refused("field 5\nswitches x" + "\nholds x" * 4 + "\nfield 5", 6)

    def test_no_tree(self):
        self.refused("field 5\nswitches x", 2)
        self.refused("field 5\nswitches", 2)

    def test_each_form_of_tree(self):
        for tree, text in FORMS:
            self.read(f"field 5\nswitches x y\nholds {text}", (("x", "y"), (tree,), 5))

    def test_trees_in_order(self):
        rows = "\n".join(["holds yes", "holds no", "holds x", "holds not x"])
        self.read("field 5\nswitches x\n" + rows, (("x",), (("yes",), ("no",), X, ("not", X)), 5))

    def test_field_of_one_to_twelve_figures(self):
        for number in (0, 1, 2, 3, 4, 9, 10, 999983, 1000000, 123456789012, 999999999999):
            self.read(f"field {number}\nswitches\nholds no", ((), (("no",),), number))

    def test_no_field(self):
        for figures in (
            "1000000000000", "07", "00", "+7", "-7", "7.0", "7_0", "", " 7", "7 ", "7 7", "x", "\u0661", "\u00b2",
        ):
            self.refused(f"field {figures}\nswitches x y\nholds x", 0)

    def test_head_of_the_field_row(self):
        for row in ("field", "field7", "Field 7", " field 7", "fields 7", "7", "field\t7", "field  7", "", "switches"):
            self.refused(f"{row}\nswitches x y\nholds x", 0)

    def test_names_are_not_looked_at_yet(self):
        self.read("field 7\nswitches x x\nholds x", (("x", "x"), (X,), 7))
        self.read("field 7\nswitches\nholds (x and y)", ((), (("and", X, Y),), 7))
        self.read("field 7\nswitches a\nholds x", (("a",), (X,), 7))

    def test_names_that_look_like_words(self):
        names = ("is", "holds", "field", "set")
        self.read("field 7\nswitches is holds field set\nholds holds", (names, (("is", "holds"),), 7))

    def test_no_name_among_the_switches(self):
        for name in ("yes", "not", "coin", "true", "abcdefg", "X", "x1", "x_", "1", "(x)", "x,", "\u00e4"):
            self.refused(f"field 7\nswitches x {name}\nholds x", 1)
            self.refused(f"field 7\nswitches {name} x\nholds x", 1)

    def test_blanks_in_the_row_of_switches(self):
        for row in ("switches ", "switches  x", "switches x ", "switches x  y", " switches x", " switches", "switches\tx"):
            self.refused(f"field 7\n{row}\nholds yes", 1)

    def test_head_of_the_row_of_switches(self):
        for row in ("switch x", "Switches x", "switchesx", "x y", "field 7", "holds x", "", " "):
            self.refused(f"field 7\n{row}\nholds yes", 1)

    def test_head_of_a_row_of_trees(self):
        for row in ("holds", "holds ", "hold x", "Holds x", "holdsx", "x", " holds x", "holds  x", "holds\tx", " "):
            self.refused(f"field 7\nswitches x\n{row}", 2)
            self.refused(f"field 7\nswitches x\nholds x\n{row}", 3)
            self.refused(f"field 7\nswitches x\nholds x\n{row}\nholds x", 3)

    def test_wrong_trees(self):
        wrong = ("(x)", "x ", "x and y", "(x and y", "(x and y))", "not", "coin", "x y", "(x  and y)", "X", "(x xor y)")
        for text in wrong:
            self.refused(f"field 7\nswitches x\nholds {text}", 2)
            for many in range(1, 4):
                self.refused("field 7\nswitches x" + "\nholds x" * many + f"\nholds {text}", 2 + many)
                self.refused("field 7\nswitches x" + "\nholds x" * many + f"\nholds {text}\nholds x", 2 + many)

    def test_trees_too_large(self):
        for text in (nested_nots(11)[1], broad(16)[1]):
            self.refused(f"field 7\nswitches x\nholds x\nholds {text}", 3)
        largest = f"\nholds {broad(15)[1]}\nholds {nested_nots(10)[1]}"
        trees = (broad(15)[0], nested_nots(10)[0])
        self.read(f"field 7\nswitches x{largest * 2}", (("x",), trees * 2, 7))

    def test_a_row_left_out(self):
        self.refused("switches x y\nholds (x and y)\nholds not x", 0)
        self.refused("field 7\nholds (x and y)\nholds not x", 1)
        self.refused("holds not x", 0)

    def test_a_row_twice(self):
        self.refused("field 7\nfield 7\nswitches x y\nholds x", 1)
        self.refused("field 7\nswitches x y\nswitches x y\nholds x", 2)
        self.refused("field 7\nswitches x y\nholds x\nfield 7", 3)
        self.refused("field 7\nswitches x y\nholds x\nswitches x y", 3)

    def test_rows_exchanged(self):
        self.refused("switches x y\nfield 7\nholds x", 0)
        self.refused("field 7\nholds x\nswitches x y", 1)
        self.refused("holds x\nswitches x y\nfield 7", 0)

    def test_a_row_without_signs_anywhere(self):
        rows = GAME.split("\n")
        for place in range(len(rows) + 1):
            self.refused("\n".join(rows[:place] + [""] + rows[place:]), place)

    def test_line_feed_behind_the_last_row(self):
        self.refused(GAME + "\n", 4)
        self.refused(GAME + "\n\n", 4)

    def test_too_early_an_end(self):
        self.refused("", 0)
        self.refused("field 7", 1)
        self.refused("field 7\n", 1)
        self.refused("field 7\nswitches x", 2)
        self.refused("field 7\nswitches x\n", 2)

    def test_wrong_rows_ahead_of_too_early_an_end(self):
        self.refused("field", 0)
        self.refused("field 7\nswitch", 1)
        self.refused("field 07\nswitches x", 0)

    def test_the_first_wrong_row_is_told(self):
        self.refused("field x\nswitches 1\nholds", 0)
        self.refused("field 7\nswitches 1\nholds", 1)
        self.refused("field 7\nswitches\nholds\nholds (", 2)

    def test_a_word_more_or_less(self):
        self.refused("field 7 7\nswitches x\nholds x", 0)
        self.refused("field\nswitches x\nholds x", 0)
        self.refused("7\nswitches x\nholds x", 0)
        self.refused("field 7\nx\nholds x", 1)
        self.refused("field 7\nswitches x\nholds x x", 2)
        self.refused("field 7\nswitches x\nx", 2)

    def test_blanks_at_the_ends_of_rows(self):
        rows = GAME.split("\n")
        for place, row in enumerate(rows):
            for other in (" " + row, row + " ", row.replace(" ", "  ", 1)):
                self.refused("\n".join(rows[:place] + [other] + rows[place + 1:]), place)

    def test_other_signs_that_part_rows(self):
        for sign in ("\r\n", "\r", "\x0b", "\x0c", "\x1c", "\x85", "\u2028"):
            self.refused(GAME.replace("\n", sign), 0)

    def test_same_answer_at_any_time(self):
        first = read_game(GAME)
        self.refused("field 7\nswitches z\nholds", 2)
        self.assertEqual(read_game(GAME), first)


if __name__ == "__main__":
    unittest.main()
