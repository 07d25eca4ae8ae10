import copy
import unittest

from asktally.errors import NoField, NoName, SmallField, Twice
from asktally.games import Game
from asktally.reader import read_game, read_tree
from helper import FORMS, broad, game_of, nested_nots, plain_mix, refusal

X, Y = ("is", "x"), ("is", "y")
LARGE = 999983


def power(name, times):
    """The text of a tree in which a name stands so often."""
    text = name
    for _ in range(times - 1):
        text = f"({name} and {text})"
    return text


class LetBy(unittest.TestCase):
    def made(self, switches, trees, field, degrees):
        for kind in (list, tuple):
            game = Game(kind(switches), kind(trees), field)
            self.assertEqual(game.switches, tuple(switches))
            self.assertIs(game.switches.__class__, tuple)
            self.assertEqual(game.trees, tuple(trees))
            self.assertIs(game.trees.__class__, tuple)
            self.assertEqual(game.field, field)
            self.assertEqual(game.degrees, degrees)
            self.assertIs(game.degrees.__class__, list)

    def test_a_game(self):
        self.made(("x", "y"), (("and", X, Y), ("not", X)), 7, [1, 1])

    def test_by_names(self):
        game = Game(switches=["x"], trees=[X], field=5)
        self.assertEqual((game.switches, game.trees, game.field, game.degrees), (("x",), (X,), 5, [1]))

    def test_no_switches(self):
        self.made((), (("yes",),), 3, [])
        self.made((), (("no",), ("not", ("no",))), 3, [])

    def test_six_switches(self):
        names = ("a", "b", "c", "d", "e", "f")
        tree = read_tree("((a and (b or c)) odd (d same (e and f)))")
        self.made(names, (tree,), 3, [1, 1, 1, 1, 1, 1])

    def test_one_to_four_trees(self):
        for many in range(1, 5):
            self.made(("x",), (X,) * many, 5, [1])

    def test_each_form(self):
        for tree, text in FORMS:
            words = text.strip("()").split()
            self.made(("x", "y"), (tree,), 3, [words.count("x"), words.count("y")])

    def test_degrees_switch_by_switch(self):
        tree = read_tree("((x and x) or (y odd (x same not z)))")
        self.made(("x", "y", "z"), (tree,), 5, [3, 1, 1])
        self.made(("z", "y", "x"), (tree,), 5, [1, 1, 3])

    def test_degree_nought_of_a_switch_that_stands_in_none(self):
        self.made(("a", "x", "b"), (X, ("not", X)), 3, [0, 1, 0])
        self.made(("a", "b"), (("yes",), ("no",)), 3, [0, 0])

    def test_degree_of_one_tree_and_not_of_all_together(self):
        trees = (read_tree("(x and x)"), read_tree("(x and (y and y))"), read_tree("(x odd (x or x))"))
        self.made(("x", "y"), trees, 5, [3, 2])
        self.made(("x", "y"), trees[::-1], 5, [3, 2])
        self.made(("x",), (X, X, X, X), 5, [1])

    def test_degree_of_large_trees(self):
        self.made(("x",), (broad(15)[0], nested_nots(10)[0]), 17, [15])
        self.made(("x",), (("not", nested_nots(10)[0]),), 3, [1])

    def test_fields(self):
        for field in (3, 5, 7, 11, 101, 999979, LARGE):
            self.made(("x",), (X,), field, [1])

    def test_the_least_fields(self):
        self.made(("x",), (read_tree(power("x", 2)),), 3, [2])
        self.made(("x",), (read_tree(power("x", 3)),), 5, [3])
        self.made(("x",), (read_tree(power("x", 4)),), 5, [4])
        self.made(("x",), (read_tree(power("x", 5)),), 7, [5])
        self.made(("x",), (X,) * 3, 3, [1])
        self.made(("x",), (X,) * 4, 5, [1])

    def test_a_game_that_was_read(self):
        switches, trees, field = read_game("field 7\nswitches x y\nholds (x and y)")
        self.made(switches, trees, field, [1, 1])

    def test_lists_changed_later(self):
        switches, trees = ["x", "y"], [X, Y]
        game = Game(switches, trees, 7)
        switches.append("z")
        switches[0] = "q"
        trees[0] = ("no",)
        trees.pop()
        self.assertEqual((game.switches, game.trees, game.degrees), (("x", "y"), (X, Y), [1, 1]))
        self.assertEqual(game.worth_at((2, 5), 3), (2 + 3 * 5) % 7)
        self.assertEqual(game.coins(), 3)

    def test_lists_handed_in_stay(self):
        switches, trees = ["x", "y"], [X, ("and", X, Y)]
        kept = copy.deepcopy((switches, trees))
        Game(switches, trees, 7).worth_at((1, 2), 3)
        self.assertEqual((switches, trees), kept)

    def test_two_games_know_nothing_of_each_other(self):
        one, other = Game(["x"], [X], 5), Game(["x", "y"], [("and", X, Y), Y], 7)
        self.assertEqual((one.switches, one.field, one.degrees), (("x",), 5, [1]))
        self.assertEqual((other.switches, other.field, other.degrees), (("x", "y"), 7, [1, 1]))
        same = Game(["x"], [X], 5)
        same.degrees.append(9)
        self.assertEqual(one.degrees, [1])


class Refused(unittest.TestCase):
    def refused(self, switches, texts, field, kind, name, value):
        for handed in (list, tuple):
            trees = handed([read_tree(text) for text in texts])
            error = refusal(Game, handed(switches.split()), trees, field)
            self.assertIs(error.__class__, kind, (switches, texts, field))
            self.assertEqual(getattr(error, name), value)

    def twice(self, switches, name):
        self.refused(switches, ["yes"], 7, Twice, "name", name)

    def no_name(self, switches, texts, name):
        self.refused(switches, texts, 7, NoName, "name", name)

    def no_field(self, field):
        self.refused("x", ["x"], field, NoField, "number", field)

    def small(self, texts, field, degree):
        self.refused("x y", texts, field, SmallField, "degree", degree)

    def test_a_switch_twice(self):
        self.twice("x x", "x")
        self.twice("x y x", "x")
        self.twice("a b c d e e", "e")
        self.twice("a b c d e a", "a")

    def test_the_first_that_stands_there_for_the_second_time(self):
        self.twice("x y y x", "y")
        self.twice("x y x y", "x")
        self.twice("a b c c b a", "c")
        self.twice("a a b b", "a")
        self.twice("a b b b a a", "b")

    def test_a_name_that_is_no_switch(self):
        self.no_name("x", ["y"], "y")
        self.no_name("", ["x"], "x")
        self.no_name("x y", ["(x and not z)"], "z")
        self.no_name("xx", ["x"], "x")
        self.no_name("x", ["xx"], "xx")

    def test_the_first_name_trees_in_order_from_left_to_right(self):
        self.no_name("x", ["(x and (q or p))", "a"], "q")
        self.no_name("x", ["x", "(x odd x)", "(p and q)", "a"], "p")
        self.no_name("x", ["x", "not b", "a"], "b")
        self.no_name("", ["((b and a) or c)"], "b")
        self.no_name("c", ["(c or (c same (c and not z)))", "y"], "z")

    def test_no_field(self):
        for field in (0, 1, 2, 4, 6, 9, 15, 25, 999981, 999997 * 3, 999999, 1000000, 999999999999):
            self.no_field(field)

    def test_primes_that_are_too_large(self):
        for field in (1000003, 1000033, 999999999989):
            self.no_field(field)

    def test_small_fields_by_degrees(self):
        self.small([power("x", 3)], 3, 3)
        self.small([power("x", 4)], 3, 4)
        self.small([power("y", 5)], 5, 5)
        self.small([power("y", 6)], 5, 6)
        self.small([power("x", 7)], 7, 7)
        self.small([power("x", 8)], 7, 8)
        self.small(["x", power("y", 3)], 3, 3)

    def test_the_next_greater_prime_is_let_by(self):
        for times, field in ((3, 5), (4, 5), (5, 7), (6, 7), (7, 11), (8, 11)):
            self.assertEqual(game_of("x", [power("x", times)], field).degrees, [times])

    def test_small_fields_by_trees(self):
        self.small(["x", "y", "x", "y"], 3, 3)
        self.refused("", ["yes", "no", "yes", "no"], 3, SmallField, "degree", 3)
        self.assertEqual(len(game_of("x y", ["x", "y", "x", "y"], 5).trees), 4)
        self.assertEqual(len(game_of("x y", ["x", "y", "x"], 3).trees), 3)

    def test_degree_is_the_greatest_of_degrees_and_trees_less_one(self):
        self.small([power("x", 4), "y", "x", "y"], 3, 4)
        self.small([power("x", 2), power("y", 2), "x", "y"], 3, 3)
        self.small([power("x", 3), power("y", 5), "x"], 3, 5)
        self.small([power("x", 5), power("y", 3), "x"], 5, 5)

    def test_twice_ahead_of_all(self):
        self.refused("x x", ["y"], 7, Twice, "name", "x")
        self.refused("x x", ["x"], 4, Twice, "name", "x")
        self.refused("x x", [power("x", 3)], 3, Twice, "name", "x")
        self.refused("x y y x", ["z", "x", "x", "x"], 0, Twice, "name", "y")

    def test_no_name_ahead_of_fields(self):
        self.refused("x", ["y"], 4, NoName, "name", "y")
        self.refused("x", [power("x", 3), "z"], 3, NoName, "name", "z")
        self.refused("", ["(b and a)", "x", "x", "x"], 1000003, NoName, "name", "b")

    def test_no_field_ahead_of_small_fields(self):
        self.refused("x", [power("x", 5)], 4, NoField, "number", 4)
        self.refused("x", ["x", "x", "x", "x"], 2, NoField, "number", 2)
        self.refused("x", [power("x", 3)], 0, NoField, "number", 0)


class Mix(unittest.TestCase):
    def setUp(self):
        self.games = {many: game_of("x", ["x"] * many, 7) for many in range(1, 5)}

    def mixed(self, numbers, s, number):
        kept = list(numbers)
        told = self.games[len(numbers)].mix(numbers, s)
        self.assertEqual(told, number, (numbers, s))
        self.assertIs(told.__class__, int)
        self.assertEqual(numbers, kept)

    def test_one_number(self):
        for number in range(7):
            for s in range(7):
                self.mixed([number], s, number)

    def test_several(self):
        self.mixed([3, 2], 4, 4)
        self.mixed([1, 2, 3], 2, 3)
        self.mixed([1, 0, 0, 1], 3, 0)
        self.mixed([0, 0, 0, 1], 3, 6)
        self.mixed([0, 0, 1, 0], 3, 2)

    def test_each_s(self):
        for s in range(7):
            self.mixed([2, 5, 1, 6], s, (2 + 5 * s + s * s + 6 * s * s * s) % 7)

    def test_s_nought_one_and_the_last(self):
        self.mixed([3, 5, 6], 0, 3)
        self.mixed([3, 5, 6], 1, 0)
        self.mixed([3, 5, 6], 6, 4)
        self.mixed([0, 5, 6, 2], 0, 0)

    def test_numbers_above_the_field(self):
        self.mixed([7], 3, 0)
        self.mixed([64], 3, 1)
        self.mixed([64, 32], 2, 2)
        self.mixed([8, 7, 15, 999999999999], 0, 1)
        self.mixed([999999999999, 999999999999], 5, 999999999999 * 6 % 7)

    def test_the_largest_field(self):
        game = game_of("x", ["x", "x", "x"], LARGE)
        s = LARGE - 1
        self.assertEqual(game.mix([5, 9, 1], s), LARGE - 3)
        self.assertEqual(game.mix([1, 2, 3], 500000), (1 + 2 * 500000 + 3 * 500000 ** 2) % LARGE)


class WorthAt(unittest.TestCase):
    def test_one_tree_where_s_plays_no_part(self):
        game = game_of("x y", ["(x and y)"], 7)
        for s in range(7):
            self.assertEqual(game.worth_at((3, 4), s), 5)

    def test_two_trees(self):
        game = game_of("x y", ["(x and y)", "not x"], 7)
        self.assertEqual(game.worth_at((3, 4), 0), 5)
        self.assertEqual(game.worth_at((3, 4), 1), 3)
        self.assertEqual(game.worth_at((3, 4), 2), 1)

    def test_four_trees(self):
        for field in (5, 11, LARGE):
            game = game_of("x y z", ["(x or y)", "(y odd z)", "yes", "(x same (x and z))"], field)
            for point in ((0, 0, 0), (1, 0, 1), (2, 3, 4), (field - 1, 3, field - 2)):
                for s in (0, 1, 2, field - 1):
                    told = game.worth_at(point, s)
                    self.assertEqual(told, plain_mix(game, point, s) % field)
                    self.assertIs(told.__class__, int)

    def test_no_switches(self):
        self.assertEqual(game_of("", ["yes"], 5).worth_at((), 3), 1)
        self.assertEqual(game_of("", ["no"], 5).worth_at((), 3), 0)
        self.assertEqual(game_of("", ["yes", "no", "yes", "yes"], 5).worth_at((), 3), (1 + 9 + 27) % 5)


class Coins(unittest.TestCase):
    def test_one_tree(self):
        for n in range(7):
            self.assertEqual(game_of(" ".join("abcdef"[:n]), ["yes"], 3).coins(), n)

    def test_more_trees(self):
        for n in range(7):
            for many in (2, 3, 4):
                self.assertEqual(game_of(" ".join("abcdef"[:n]), ["yes"] * many, 5).coins(), n + 1)


if __name__ == "__main__":
    unittest.main()
