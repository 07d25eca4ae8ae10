import copy
import unittest

from asktally.errors import NoText
from asktally.reader import read_game, read_tree
from asktally.writer import game_text, tree_text
from helper import FORMS, broad, nested_left, nested_nots, nested_right, refusal, trees_over

X, Y = ("is", "x"), ("is", "y")
NAMES = ("a", "b", "c", "d", "e", "f")


class TreeText(unittest.TestCase):
    def test_each_form(self):
        for tree, text in FORMS:
            self.assertEqual(tree_text(tree), text)

    def test_forms_within_one_another(self):
        for tree, text in trees_over(FORMS):
            self.assertEqual(tree_text(tree), text)
            self.assertEqual(read_tree(text), tree)

    def test_sides_stay_apart(self):
        self.assertEqual(tree_text(("and", ("not", X), Y)), "(not x and y)")
        self.assertEqual(tree_text(("not", ("and", X, Y))), "not (x and y)")
        self.assertEqual(tree_text(("or", Y, ("odd", X, ("no",)))), "(y or (x odd no))")
        self.assertEqual(tree_text(("or", ("odd", Y, X), ("no",))), "((y odd x) or no)")

    def test_names_that_look_like_words(self):
        for name in ("is", "holds", "field", "set", "abcdef"):
            self.assertEqual(tree_text(("is", name)), name)
            self.assertEqual(read_tree(tree_text(("not", ("is", name)))), ("not", ("is", name)))

    def test_largest_trees_are_read_again(self):
        for tree, text in (nested_nots(10), nested_left(10), nested_right(10), broad(15)):
            self.assertEqual(tree_text(tree), text)
            self.assertEqual(read_tree(tree_text(tree)), tree)

    def test_trees_beyond_what_is_read(self):
        for tree, text in (nested_nots(12), nested_left(12), broad(50)):
            self.assertEqual(tree_text(tree), text)
            self.assertIs(refusal(read_tree, text).__class__, NoText)


class GameText(unittest.TestCase):
    def both_ways(self, switches, trees, field, text):
        self.assertEqual(game_text(tuple(switches), tuple(trees), field), text)
        self.assertEqual(game_text(list(switches), list(trees), field), text)
        self.assertEqual(game_text(list(switches), tuple(trees), field), text)
        self.assertEqual(read_game(text), (tuple(switches), tuple(trees), field))

    def test_number_of_switches(self):
        self.both_ways((), (("yes",),), 3, "field 3\nswitches\nholds yes")
        self.both_ways(NAMES[:1], (("yes",),), 3, "field 3\nswitches a\nholds yes")
        self.both_ways(NAMES, (("yes",),), 3, "field 3\nswitches a b c d e f\nholds yes")

    def test_order_of_switches(self):
        self.both_ways(("y", "x", "a"), (X,), 3, "field 3\nswitches y x a\nholds x")

    def test_number_of_trees(self):
        trees = (("and", X, Y), ("not", X), ("no",), Y)
        rows = ("holds (x and y)", "holds not x", "holds no", "holds y")
        for many in range(1, 5):
            text = "\n".join(("field 7", "switches x y") + rows[:many])
            self.both_ways(("x", "y"), trees[:many], 7, text)

    def test_each_form(self):
        for tree, text in FORMS:
            self.both_ways(("x", "y"), (tree,), 5, f"field 5\nswitches x y\nholds {text}")

    def test_fields_that_are_none(self):
        for field in (0, 1, 2, 4, 9, 1000000, 999999999999):
            self.both_ways(("x",), (X,), field, f"field {field}\nswitches x\nholds x")

    def test_games_that_are_not_let_by(self):
        self.both_ways(("x", "x"), (Y, Y), 4, "field 4\nswitches x x\nholds y\nholds y")

    def test_names_that_look_like_words(self):
        names = ("is", "holds", "field")
        self.both_ways(names, [("is", name) for name in names], 5,
                       "field 5\nswitches is holds field\nholds is\nholds holds\nholds field")

    def test_a_word_too_long_for_a_name_is_written_but_not_read(self):
        text = game_text(("switches",), (("is", "switches"),), 5)
        self.assertEqual(text, "field 5\nswitches switches\nholds switches")
        self.assertEqual(refusal(read_game, text).row, 1)

    def test_nothing_handed_in_is_changed(self):
        switches, trees = ["x", "y"], [X, ("not", Y)]
        kept = copy.deepcopy((switches, trees))
        first = game_text(switches, trees, 5)
        self.assertEqual((switches, trees), kept)
        self.assertEqual(game_text(switches, trees, 5), first)

    def test_unlike_games_have_unlike_texts(self):
        texts = [game_text(("x", "y"), (tree,), field) for tree, _ in trees_over(FORMS) for field in (3, 5)]
        self.assertEqual(len(texts), len(set(texts)))


if __name__ == "__main__":
    unittest.main()
