import copy
import itertools
import unittest

from asktally.helptexts import read_helper
from asktally.talks import talked
from helper import HELPERS, HONEST, SMALL_GAMES, all_coins, by_turns, game_of, liar, off_in_round

FOUR = ("x y z w", ["((x or y) and (z or (w and x)))"], 11)
FOUR_MIXED = ("x y z w", ["((x or y) and (z or w))", "x", "(w odd (z odd w))", "yes"], 11)


def whole(value):
    return value.__class__ is int


class Talked(unittest.TestCase):
    def talk(self, parts, text, coins, rows, end):
        game = game_of(*parts)
        self.assertEqual(talked(game, read_helper(text), coins), (rows, end))

    def test_one_tree(self):
        rows = (("claims", (1,)), ("say", (0, 1)), ("coin", 3), ("say", (0, 3)), ("coin", 5))
        self.talk(("x y", ["(x and y)"], 7), HONEST, (3, 5), rows, ("believed",))

    def test_two_trees(self):
        rows = (("claims", (1, 2)), ("coin", 3), ("say", (6, 1)), ("coin", 5), ("say", (2, 0)), ("coin", 6))
        self.talk(("x y", ["(x and y)", "not x"], 7), HONEST, (3, 5, 6), rows, ("believed",))

    def test_without_switches(self):
        self.talk(("", ["yes"], 5), HONEST, (), (("claims", (1,)),), ("believed",))
        self.talk(("", ["yes"], 5), "", (), (("claims", (0,)),), ("caught", 1))
        self.talk(("", ["yes", "no"], 5), HONEST, (2,), (("claims", (1, 0)), ("coin", 2)), ("believed",))
        self.talk(("", ["yes", "no"], 5), "", (2,), (("claims", (0, 0)), ("coin", 2)), ("caught", 1))
        self.talk(("", ["no", "yes"], 5), "", (0,), (("claims", (0, 0)), ("coin", 0)), ("believed",))

    def test_caught_at_the_end(self):
        parts = ("x", ["x"], 7)
        for coin in range(7):
            rows = (("claims", (2,)), ("say", (0, 2)), ("coin", coin))
            self.talk(parts, liar([2]), (coin,), rows, ("believed",) if coin == 0 else ("caught", 2))

    def test_believed_by_a_coin_though_the_row_is_wrong(self):
        for coin in range(7):
            rows = (("claims", (1,)), ("say", (1, 0)), ("coin", coin))
            self.talk(("x", ["x"], 7), "say 1", (coin,), rows, ("believed",) if coin == 4 else ("caught", 2))

    def test_caught_in_the_first_round(self):
        self.talk(("x", ["x"], 7), "say 1\nsay 1", (4,), (("claims", (1,)), ("say", (1, 1))), ("caught", 1))

    def test_more_and_fewer_numbers_than_asked(self):
        parts = ("x", ["(x and x)"], 7)
        self.talk(parts, "say 1", (4,), (("claims", (1,)), ("say", (1, 0, 0)), ("coin", 4)), ("caught", 2))
        rows = (("claims", (1,)), ("say", (1, 2, 3)))
        self.talk(parts, "say 1\nsay 2\nsay 3\nsay 4\nsay 5", (4,), rows, ("caught", 1))
        self.talk(parts, "", (4,), (("claims", (0,)), ("say", (0, 0, 0)), ("coin", 4)), ("caught", 2))
        self.talk(parts, "", (0,), (("claims", (0,)), ("say", (0, 0, 0)), ("coin", 0)), ("believed",))

    def test_boxes_are_kept_from_round_to_round(self):
        rows = (("claims", (1,)), ("say", (2, 2)))
        self.talk(("x", ["x"], 7), "set i (+ i 1)\nsay i\nsay i", (4,), rows, ("caught", 1))

    def test_caught_in_each_round(self):
        for parts in (FOUR, FOUR_MIXED):
            game = game_of(*parts)
            coins = (7, 3, 5, 10, 4)[:game.coins()]
            believed = talked(game, read_helper(HONEST), coins)
            self.assertEqual(believed[1], ("believed",))
            for k in range(1, 5):
                talk, end = talked(game, read_helper(off_in_round(k)), coins)
                self.assertEqual(end, ("caught", k))
                self.assertEqual([row for row in talk if row[0] == "claims"], [talk[0]])
                self.assertEqual([row[0] for row in talk].count("say"), k)
                self.assertEqual(talk[-1][0], "say")
                self.assertEqual(talk[:-1], believed[0][:len(talk) - 1])
                self.assertEqual([row[1] for row in talk if row[0] == "coin"], list(coins[:game.coins() - 4 + k - 1]))
            self.assertEqual(talked(game, read_helper(off_in_round(0)), coins)[1], ("caught", 1))
            self.assertEqual(talked(game, read_helper(liar([0] * len(parts[1]))), coins)[1], ("caught", 5))

    def test_the_rows_of_a_whole_talk(self):
        for parts in SMALL_GAMES + (FOUR, FOUR_MIXED):
            game = game_of(*parts)
            words = ["claims"] + ["coin"] * (len(game.trees) > 1) + ["say", "coin"] * len(game.switches)
            coins = tuple(place % game.field for place in range(2, 2 + game.coins()))
            talk, end = talked(game, read_helper(HONEST), coins)
            self.assertEqual([row[0] for row in talk], words)
            self.assertEqual(tuple(row[1] for row in talk if row[0] == "coin"), coins)
            says = [len(row[1]) for row in talk if row[0] == "say"]
            self.assertEqual(says, [degree + 1 for degree in game.degrees])
            self.assertEqual(len(talk[0][1]), len(game.trees))
            self.assertEqual(end, ("believed",))

    def test_as_a_machine_and_a_doubter_in_turn(self):
        for parts in SMALL_GAMES:
            game = game_of(*parts)
            claims = [2, 1, 1, 1][:len(game.trees)]
            for text in HELPERS + (liar(claims), off_in_round(0), off_in_round(1), off_in_round(2)):
                helper = read_helper(text)
                for coins in all_coins(game)[::3]:
                    rows, doubter = by_turns(game, text, coins)
                    self.assertEqual(talked(game, helper, coins), (rows, doubter.waits()), (parts, text, coins))

    def test_kinds(self):
        for parts, text in itertools.product(SMALL_GAMES + (FOUR_MIXED,), ("", HONEST, "say due", off_in_round(1))):
            game = game_of(*parts)
            told = talked(game, read_helper(text), [1] * game.coins())
            self.assertIs(told.__class__, tuple)
            talk, end = told
            self.assertIs(talk.__class__, tuple)
            self.assertIs(end.__class__, tuple)
            for word, values in talk:
                self.assertIn(word, ("claims", "coin", "say"))
                if word == "coin":
                    self.assertTrue(whole(values))
                else:
                    self.assertIs(values.__class__, tuple)
                    self.assertTrue(all(whole(value) and 0 <= value < game.field for value in values))
            self.assertTrue(all(row.__class__ is tuple and len(row) == 2 for row in talk))
            self.assertTrue(end == ("believed",) or (end[0] == "caught" and whole(end[1]) and len(end) == 2))

    def test_coins_as_a_list_and_a_tuple_stay(self):
        for parts in (FOUR, FOUR_MIXED):
            game = game_of(*parts)
            for text in (HONEST, off_in_round(2), ""):
                helper = read_helper(text)
                coins = [4, 8, 1, 0, 9][:game.coins()]
                kept = list(coins)
                first = talked(game, helper, coins)
                self.assertEqual(coins, kept)
                self.assertEqual(talked(game, helper, tuple(coins)), first)
                coins[0] = 7
                self.assertEqual(first, talked(game, helper, kept))

    def test_the_game_and_the_helper_stay(self):
        game = game_of(*FOUR_MIXED)
        kept = copy.deepcopy((game.switches, game.trees, game.field, game.degrees))
        helper = read_helper(HONEST)
        talked(game, helper, (1, 2, 3, 4, 5))
        self.assertEqual((game.switches, game.trees, game.field, game.degrees), kept)
        self.assertEqual(helper, read_helper(HONEST))

    def test_same_answer_at_any_time(self):
        game, other = game_of(*FOUR), game_of(*FOUR_MIXED)
        counting = read_helper("set i (+ i 1)\nsay i\ngo 0")
        asked = [(game, counting, (1, 2, 3, 4)), (game, read_helper(HONEST), (5, 6, 7, 8)), (other, counting, (1, 2, 3, 4, 5))]
        first = [talked(*parts) for parts in asked]
        self.assertEqual([talked(*parts) for parts in asked], first)
        self.assertEqual([talked(*parts) for parts in reversed(asked)], first[::-1])


if __name__ == "__main__":
    unittest.main()
