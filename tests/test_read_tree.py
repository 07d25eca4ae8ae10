import unittest

from asktally.errors import NoText
from asktally.reader import read_tree
from helper import FORMS, JOINING, broad, nested_left, nested_nots, nested_right, refusal, trees_over

KEPT_ALONE = ("not", "and", "or", "odd", "same", "round", "due", "asked", "true", "coin")


class ReadTree(unittest.TestCase):
    def refused(self, text):
        error = refusal(read_tree, text)
        self.assertIs(error.__class__, NoText, repr(text))
        self.assertEqual(error.row, 0, repr(text))
        self.assertIs(error.row.__class__, int)

    def test_each_form(self):
        for tree, text in FORMS:
            self.assertEqual(read_tree(text), tree)

    def test_forms_within_one_another(self):
        for tree, text in trees_over(FORMS):
            self.assertEqual(read_tree(text), tree)

    def test_a_tree_of_all_forms(self):
        text = "((not x and (yes or no)) odd not (y same not not long))"
        tree = (
            "odd",
            ("and", ("not", ("is", "x")), ("or", ("yes",), ("no",))),
            ("not", ("same", ("is", "y"), ("not", ("not", ("is", "long"))))),
        )
        self.assertEqual(read_tree(text), tree)

    def test_not_binds_what_is_next_to_it(self):
        self.assertEqual(read_tree("(not x and y)"), ("and", ("not", ("is", "x")), ("is", "y")))
        self.assertEqual(read_tree("not (x and y)"), ("not", ("and", ("is", "x"), ("is", "y"))))

    def test_names_that_look_like_words(self):
        for name in ("is", "holds", "field", "set", "nots", "n", "yess", "ands", "op", "abcdef"):
            self.assertEqual(read_tree(name), ("is", name))
            self.assertEqual(read_tree(f"(not {name} or {name})"), ("or", ("not", ("is", name)), ("is", name)))

    def test_names_of_each_letter(self):
        for letter in "abcdefghijklmnopqrstuvwxyz":
            self.assertEqual(read_tree(f"({letter} odd z{letter}z)"), ("odd", ("is", letter), ("is", f"z{letter}z")))

    def test_kept_words_alone(self):
        for word in KEPT_ALONE:
            self.refused(word)
            self.refused(f"not {word}")
            self.refused(f"({word} and x)")
            self.refused(f"(x and {word})")

    def test_other_joining_words(self):
        for word in ("xor", "is", "x", "not", "yes", "And", "AND", "andor", "an", "", "holds", "nor", "+"):
            self.refused(f"(x {word} y)")

    def test_ten_within_one_another(self):
        for nested in (nested_nots, nested_left, nested_right):
            for within in range(1, 11):
                tree, text = nested(within)
                self.assertEqual(read_tree(text), tree)
            for within in (11, 12, 15, 30):
                self.refused(nested(within)[1])

    def test_ten_within_one_another_by_several_forms(self):
        tree, text = nested_nots(9)
        self.assertEqual(read_tree(f"(y or {text})"), ("or", ("is", "y"), tree))
        tree, text = nested_nots(10)
        self.refused(f"(y or {text})")
        self.refused(f"({text} or y)")

    def test_very_deep_texts(self):
        for text in ("not " * 4900 + "x", "(" * 20000, "(" * 2000 + "x", "not " * 5000, "(not " * 4000):
            self.refused(text)

    def test_thirty_trees_in_one(self):
        tree, text = broad(15)
        self.assertEqual(read_tree(text), tree)
        self.assertEqual(read_tree("not " + text), ("not", tree))
        self.refused("not not " + text)
        self.refused(broad(16)[1])
        self.refused(broad(100)[1])

    def test_thirty_trees_with_not_inside(self):
        tree, text = broad(15)
        with_not = text[:text.rindex("x")] + "not x" + text[text.rindex("x") + 1:]
        self.assertEqual(read_tree(with_not)[1], tree[1])
        self.refused(with_not.replace("x", "not x", 1))

    def test_trees_counted_anew_each_time(self):
        tree, text = broad(15)
        for _ in range(5):
            self.assertEqual(read_tree(text), tree)

    def test_blanks(self):
        for text in ("(x and not y)", "not (x or yes)", "(not x same (y odd no))", "not x", "x"):
            self.assertIsNone(refusal(read_tree, text))
            for place in range(len(text) + 1):
                self.refused(text[:place] + " " + text[place:])
            for place, sign in enumerate(text):
                if sign == " ":
                    self.refused(text[:place] + "\t" + text[place + 1:])
                    self.refused(text[:place] + "\n" + text[place + 1:])

    def test_blanks_too_few(self):
        for text in ("notx(", "not(x and y)", "(xand y)", "(x andy)", "(xandy)", "((x and y)or z)", "(x or(y and z))"):
            self.refused(text)

    def test_blanks_at_ends_and_inside_brackets(self):
        for text in (" x", "x ", " ", "  ", "( x and y)", "(x and y )", " (x and y)", "(x and y) ", "not x ", "not "):
            self.refused(text)

    def test_brackets(self):
        for text in (
            "(x)", "(yes)", "(not x)", "not (x)", "((x and y))", "(x and (y))", "((x) and y)", "()", "(", ")",
            "(x and y", "x and y)", "x and y", "(x and y))", "((x and y)", "(x and y and z)", "x or y", "x)", "(x",
            "(x and)", "(and x)", "(x y)", "(x and y) and z", "[x and y]", "(x, y)", "x y", "x x",
        ):
            self.refused(text)

    def test_signs_that_belong_to_no_tree(self):
        for text in ("X", "x1", "1", "0", "x_y", "x.", "abcdefg", "Yes", "NO", "yes no", "x,", "-x", "\u00e4", "holds x"):
            self.refused(text)
        self.refused("(abcdefg and x)")

    def test_line_feeds(self):
        for _, text in FORMS:
            self.refused(text + "\n")
            self.refused("\n" + text)
            self.refused(text + "\n" + text)

    def test_text_without_signs(self):
        self.refused("")

    def test_each_text_cut_short(self):
        for text in ("(x and not y)", "(not x or no)", "((x same y) odd no)"):
            for length in range(len(text)):
                self.refused(text[:length])

    def test_joining_words_stay_apart(self):
        read = [read_tree(f"(x {word} y)")[0] for word in JOINING]
        self.assertEqual(read, list(JOINING))

    def test_same_answer_at_any_time(self):
        text = "(x and not y)"
        first = read_tree(text)
        self.refused("(x and")
        self.assertEqual(read_tree(text), first)


if __name__ == "__main__":
    unittest.main()
