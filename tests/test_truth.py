import itertools
import unittest

from asktally.games import Game
from asktally.reader import read_tree
from asktally.rows import both_ends, value_at
from asktally.settings import all_settings, holds_at
from asktally.truth import counts_of, true_row
from helper import broad, game_of, nested_nots, plain_sum

LARGE = 999983
GAMES = (
    ("x", ["x"], 3),
    ("x", ["(x and x)"], 3),
    ("x", ["(x and not x)", "(x or (x odd x))"], 5),
    ("x y", ["(x and y)"], 5),
    ("x y", ["(x or (y and x))", "not y", "(x same y)"], 5),
    ("y x", ["((x odd y) and (x or not y))"], 7),
    ("x y z", ["((x and y) or (y odd z))", "(z same (x and z))"], 5),
    ("x y z", ["y", "(y and y)", "yes", "no"], 7),
    ("a b c d", ["((a and b) or (c odd not d))"], 5),
    ("a b c d", ["((a or d) and (b same d))", "(c odd (d and c))", "b", "(a and (b and c))"], 7),
)


def made(games):
    return [game_of(*parts) for parts in games]


class CountsOf(unittest.TestCase):
    def counted(self, game, counts):
        told = counts_of(game)
        self.assertEqual(told, counts)
        self.assertIs(told.__class__, list)
        self.assertTrue(all(count.__class__ is int for count in told))

    def test_one_tree_and_more(self):
        self.counted(game_of("x y", ["(x and y)"], 5), [1])
        self.counted(game_of("x y", ["(x and y)", "(x or y)", "(x odd y)", "x"], 5), [1, 3, 2, 2])

    def test_no_switches(self):
        self.counted(game_of("", ["yes"], 3), [1])
        self.counted(game_of("", ["no"], 3), [0])
        self.counted(game_of("", ["yes", "no", "not no"], 3), [1, 0, 1])

    def test_six_switches_and_counts_above_the_field(self):
        texts = ["yes", "a", "(a or f)", "no"]
        self.counted(game_of("a b c d e f", texts, 5), [64, 32, 48, 0])
        self.counted(game_of("a b c d e f", texts[:3], 3), [64, 32, 48])
        self.counted(game_of("a b", ["yes"], 3), [4])

    def test_setting_by_setting(self):
        for game in made(GAMES):
            settings = all_settings(len(game.switches))
            due = [sum(holds_at(tree, game.switches, setting) for setting in settings) for tree in game.trees]
            self.counted(game, due)

    def test_the_list_told_is_the_askers_own(self):
        game = game_of("x y", ["(x and y)", "x"], 5)
        first = counts_of(game)
        first[0] = 9
        first.append(9)
        self.assertEqual(counts_of(game), [1, 2])
        self.assertIsNot(counts_of(game), counts_of(game))


class TrueRow(unittest.TestCase):
    def rounds(self, game):
        """Each mix, and coins of each round, of a game; of larger fields some coins alone."""
        field = game.field
        some = range(field) if field < 5 else (0, 1, 2, field - 1)
        for s in some:
            for k in range(len(game.switches)):
                for coins in itertools.product(some, repeat=k):
                    yield s, coins

    def test_known_rows(self):
        game = game_of("x y", ["(x and y)"], 7)
        self.assertEqual(true_row(game, 0, []), [0, 1])
        self.assertEqual(true_row(game, 0, [3]), [0, 3])
        game = game_of("x y", ["(x or (y and x))"], 7)
        self.assertEqual(true_row(game, 0, ()), [0, 2, 2])
        self.assertEqual(true_row(game, 0, (3,)), [3, 4])
        game = game_of("x y", ["x", "(x odd y)"], 7)
        self.assertEqual(true_row(game, 0, ()), [0, 2])
        self.assertEqual(true_row(game, 2, ()), [2, 4])
        self.assertEqual(true_row(game, 2, (4,)), [5, 5])

    def test_against_the_sum_gone_through(self):
        for game in made(GAMES):
            for s, coins in self.rounds(game):
                row = true_row(game, s, coins)
                self.assertEqual(len(row), game.degrees[len(coins)] + 1)
                self.assertEqual(row, [plain_sum(game, s, coins + (x,)) for x in range(len(row))])
                self.assertTrue(all(number.__class__ is int for number in row))

    def test_it_stands_for_the_sum_at_every_number(self):
        for game in made(GAMES):
            for s, coins in self.rounds(game):
                row = true_row(game, s, coins)
                for x in range(game.field):
                    self.assertEqual(value_at(row, x, game.field), plain_sum(game, s, coins + (x,)))

    def test_round_by_round_it_adds_up(self):
        for game in made(GAMES):
            for s, coins in self.rounds(game):
                ends = both_ends(true_row(game, s, coins), game.field)
                if coins == ():
                    self.assertEqual(ends, game.mix(counts_of(game), s))
                else:
                    before = true_row(game, s, coins[:-1])
                    self.assertEqual(ends, value_at(before, coins[-1], game.field))

    def test_one_number_where_the_switch_stands_in_no_tree(self):
        game = game_of("a x b", ["x"], 5)
        self.assertEqual(true_row(game, 0, ()), [2])
        self.assertEqual(true_row(game, 0, (4,)), [0, 2])
        self.assertEqual(true_row(game, 0, (4, 3)), [3])

    def test_the_last_round(self):
        for game in made(GAMES):
            coins = tuple((2 * place + 2) % game.field for place in range(len(game.switches) - 1))
            for s in (0, 1, game.field - 1):
                row = true_row(game, s, coins)
                self.assertEqual(row, [game.worth_at(coins + (x,), s) for x in range(len(row))])

    def test_with_one_tree_the_mix_plays_no_part(self):
        game = game_of("x y", ["(x or (y and x))"], 7)
        for coins in ((), (3,)):
            self.assertEqual([true_row(game, s, coins) for s in range(7)], [true_row(game, 0, coins)] * 7)

    def test_large_games(self):
        tree = read_tree("((a and (b or c)) odd ((d same (e and f)) or (a and not f)))")
        for field in (5, LARGE):
            game = Game(list("abcdef"), [tree, ("not", tree), ("yes",), ("is", "f")], field)
            coins = (2, field - 1, 3, 0, 4)
            for k in range(6):
                row = true_row(game, field - 2, coins[:k])
                self.assertEqual(row, [plain_sum(game, field - 2, coins[:k] + (x,)) for x in range(len(row))])
        game = Game(["x"], [broad(15)[0], nested_nots(10)[0]], 17)
        self.assertEqual(true_row(game, 3, ()), [(x ** 15 + 3 * (1 - x)) % 17 for x in range(16)])

    def test_coins_as_a_list_and_as_a_tuple_which_stay(self):
        game = game_of("x y z", ["((x and y) or (y odd z))", "(z same (x and z))"], 5)
        for coins in ((), (3,), (3, 4)):
            handed = list(coins)
            self.assertEqual(true_row(game, 2, handed), true_row(game, 2, coins))
            self.assertEqual(handed, list(coins))

    def test_the_list_told_is_the_askers_own(self):
        game = game_of("x y", ["(x and y)"], 5)
        first = true_row(game, 0, (3,))
        self.assertIs(first.__class__, list)
        first[0] = 4
        first.append(4)
        self.assertEqual(true_row(game, 0, (3,)), [0, 3])

    def test_two_games_in_turn(self):
        one, other = game_of("x y", ["(x and y)"], 5), game_of("x y", ["(x and y)"], 7)
        told = [true_row(game, 0, (4,)) for game in (one, other, one)]
        self.assertEqual(told, [[0, 4], [0, 4], [0, 4]])
        told = [true_row(game, 0, (4,)) for game in (game_of("x y", ["not x"], p) for p in (5, 7, 5))]
        self.assertEqual(told, [[2], [4], [2]])

    def test_the_game_stays(self):
        game = game_of("x y", ["(x and y)", "x"], 5)
        kept = (game.switches, game.trees, game.field, list(game.degrees))
        true_row(game, 2, [1])
        counts_of(game)
        self.assertEqual((game.switches, game.trees, game.field, game.degrees), kept)


if __name__ == "__main__":
    unittest.main()
