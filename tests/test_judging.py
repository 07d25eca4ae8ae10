import copy
import unittest

from asktally.errors import NoCount, NoNumber, NoTurn
from asktally.helptexts import read_helper
from asktally.judging import judged
from asktally.talks import talked
from asktally.talktexts import read_talk, talk_text
from helper import HELPERS, HONEST, SMALL_GAMES, all_coins, game_of, liar, off_in_round, refusal

ONE = ("x y", ["(x and y)"], 7)
ONE_TALK = (("claims", (1,)), ("say", (0, 1)), ("coin", 3), ("say", (0, 3)), ("coin", 5))
TWO = ("x y", ["(x and y)", "not x"], 7)
TWO_TALK = (("claims", (1, 2)), ("coin", 3), ("say", (6, 1)), ("coin", 5), ("say", (2, 0)), ("coin", 6))
BOTH = ((ONE, ONE_TALK), (TWO, TWO_TALK))
NO_NUMBERS = (7, 8, 1000000, -1, -7, True, False, None, "1", "", (1,), (), [1], 1.0)


def put(talk, place, row):
    """The talk with another row at a place, and none behind it."""
    return talk[:place] + (row,)


def with_value(row, place, value):
    """The row with another number at a place."""
    if row[0] == "coin":
        return ("coin", value)
    return (row[0], row[1][:place] + (value,) + row[1][place + 1:])


class Judged(unittest.TestCase):
    def test_believed(self):
        for parts, talk in BOTH:
            self.assertEqual(judged(game_of(*parts), talk), ("believed",))

    def test_talks_end_as_they_ended(self):
        for parts in SMALL_GAMES:
            game = game_of(*parts)
            for text in HELPERS + (liar([1] * len(game.trees)), off_in_round(0), off_in_round(1), off_in_round(2)):
                helper = read_helper(text)
                for coins in all_coins(game)[::3]:
                    talk, end = talked(game, helper, coins)
                    self.assertEqual(judged(game, talk), end)
                    self.assertEqual(judged(game, read_talk(talk_text(talk))), end)

    def test_each_beginning_is_open(self):
        for parts in SMALL_GAMES:
            game = game_of(*parts)
            for text in HELPERS:
                talk = talked(game, read_helper(text), [2] * game.coins())[0]
                for many in range(len(talk)):
                    told = judged(game, talk[:many])
                    self.assertEqual(told, ("open",))
                    self.assertIs(told.__class__, tuple)

    def test_without_rows(self):
        for parts in SMALL_GAMES:
            self.assertEqual(judged(game_of(*parts), ()), ("open",))

    def test_without_switches(self):
        game = game_of("", ["yes"], 5)
        self.assertEqual(judged(game, (("claims", (1,)),)), ("believed",))
        self.assertEqual(judged(game, (("claims", (2,)),)), ("caught", 1))
        game = game_of("", ["yes", "no"], 5)
        self.assertEqual(judged(game, (("claims", (0, 4)),)), ("open",))
        self.assertEqual(judged(game, (("claims", (0, 4)), ("coin", 4))), ("believed",))
        self.assertEqual(judged(game, (("claims", (0, 4)), ("coin", 3))), ("caught", 1))

    def test_a_row_that_does_not_add_up_is_caught_in_its_round(self):
        for parts, talk in BOTH:
            game = game_of(*parts)
            says = [place for place, row in enumerate(talk) if row[0] == "say"]
            for k, place in enumerate(says, start=1):
                for at in range(2):
                    for value in range(7):
                        row = with_value(talk[place], at, value)
                        end = ("caught", k) if row != talk[place] else ("open",)
                        self.assertEqual(judged(game, put(talk, place, row)), end)

    def test_a_last_coin_at_which_due_is_not_the_mix(self):
        game = game_of("x", ["x"], 7)
        for coin in range(7):
            talk = (("claims", (2,)), ("say", (0, 2)), ("coin", coin))
            self.assertEqual(judged(game, talk), ("believed",) if coin == 0 else ("caught", 2))
        game = game_of(*ONE)
        for coin in range(7):
            talk = ONE_TALK[:3] + (("say", (1, 2)), ("coin", coin))
            self.assertEqual(judged(game, talk), ("believed",) if coin == 4 else ("caught", 3), coin)

    def test_other_claims_are_caught_in_the_first_round(self):
        game = game_of(*ONE)
        self.assertEqual(judged(game, (("claims", (2,)), ("say", (0, 1)))), ("caught", 1))
        game = game_of(*TWO)
        self.assertEqual(judged(game, (("claims", (1, 3)),) + TWO_TALK[1:3]), ("caught", 1))
        self.assertEqual(judged(game, (("claims", (1, 2)), ("coin", 4), ("say", (6, 1)))), ("caught", 1))

    def test_the_talk_stays(self):
        for parts, talk in BOTH:
            game = game_of(*parts)
            for handed in (talk, talk[:3], talk + (("coin", 1),), (("claims", ()),), (("coin", True),)):
                kept = copy.deepcopy(handed)
                refusal(judged, game, handed)
                self.assertEqual(repr(handed), repr(kept))

    def test_same_answer_at_any_time(self):
        one, two = game_of(*ONE), game_of(*TWO)
        self.assertEqual(judged(one, ONE_TALK), ("believed",))
        self.assertIs(refusal(judged, one, TWO_TALK).__class__, NoCount)
        self.assertEqual(judged(two, TWO_TALK), ("believed",))
        self.assertEqual(judged(one, ONE_TALK[:2]), ("open",))
        self.assertEqual(judged(one, ONE_TALK), ("believed",))


class Refused(unittest.TestCase):
    def refused(self, parts, talk, kind, row):
        error = refusal(judged, game_of(*parts), talk)
        self.assertIs(error.__class__, kind, talk)
        self.assertEqual(error.row, row, talk)
        self.assertIs(error.row.__class__, int)

    def test_ahead_of_the_claims(self):
        for parts, talk in BOTH:
            for row in (("coin", 1), ("say", (1,)), ("say", (1, 2)), ("say", (0, 1))):
                self.refused(parts, (row,), NoTurn, 0)
                self.refused(parts, (row,) + talk, NoTurn, 0)

    def test_claims_twice(self):
        for parts, talk in BOTH:
            self.refused(parts, (talk[0],) + talk, NoTurn, 1)
            for place in range(1, len(talk) + 1):
                for row in (talk[0], ("claims", (0, 1)), ("claims", (1,)), ("claims", ())):
                    self.refused(parts, put(talk, place, row), NoTurn, place)

    def test_claims_in_the_place_of_a_say(self):
        for parts, talk in BOTH:
            for place, row in enumerate(talk):
                if row[0] == "say":
                    self.refused(parts, put(talk, place, ("claims", row[1])) + talk[place + 1:], NoTurn, place)

    def test_a_say_in_the_place_of_the_claims(self):
        for parts, talk in BOTH:
            self.refused(parts, (("say", talk[0][1]),) + talk[1:], NoTurn, 0)

    def test_a_say_in_the_place_of_a_coin_and_a_coin_in_that_of_a_say(self):
        for parts, talk in BOTH:
            for place, row in enumerate(talk[1:], start=1):
                other = ("say", (0, 1)) if row[0] == "coin" else ("coin", 1)
                self.refused(parts, put(talk, place, other), NoTurn, place)
                self.refused(parts, put(talk, place, other) + talk[place:], NoTurn, place)

    def test_two_coins(self):
        for parts, talk in BOTH:
            for place, row in enumerate(talk):
                if row[0] == "coin":
                    self.refused(parts, talk[:place + 1] + (row,) + talk[place + 1:], NoTurn, place + 1)

    def test_two_says(self):
        for parts, talk in BOTH:
            for place, row in enumerate(talk):
                if row[0] == "say":
                    self.refused(parts, talk[:place + 1] + (row,) + talk[place + 1:], NoTurn, place + 1)

    def test_with_one_tree_no_coin_behind_the_claims(self):
        self.refused(ONE, (("claims", (1,)), ("coin", 3)), NoTurn, 1)
        self.refused(("", ["yes"], 5), (("claims", (1,)), ("coin", 3)), NoTurn, 1)

    def test_rows_behind_the_end(self):
        caught = (("claims", (1,)), ("say", (0, 2)))
        ended = BOTH + ((ONE, caught), (("", ["yes"], 5), (("claims", (1,)),)), (("", ["yes"], 5), (("claims", (2,)),)))
        ended += ((ONE, ONE_TALK[:4] + (("coin", 6),)), (ONE, ONE_TALK[:3] + (("say", (1, 2)), ("coin", 6))))
        for parts, talk in ended:
            for row in (("coin", 1), ("say", (0, 1)), ("claims", (1,)), ("say", ()), ("coin", 99), ("say", (None, 0, "x"))):
                self.refused(parts, talk + (row,), NoTurn, len(talk))
                self.refused(parts, talk + (row, row), NoTurn, len(talk))

    def test_another_number_of_numbers(self):
        for parts, talk in BOTH + ((("x", ["(x and (x or x))"], 5), (("claims", (1,)), ("say", (0, 1, 3, 2)))),):
            for place, row in enumerate(talk):
                if row[0] != "coin":
                    for values in (row[1] + (0,), row[1] + (0, 0), row[1][:-1], ()):
                        self.refused(parts, put(talk, place, (row[0], values)), NoCount, place)
                        self.refused(parts, put(talk, place, (row[0], values)) + talk[place + 1:], NoCount, place)

    def test_a_row_of_a_switch_in_no_tree_has_one_number(self):
        parts, talk = ("a x", ["x"], 5), (("claims", (2,)), ("say", (1,)), ("coin", 4), ("say", (0, 1)), ("coin", 2))
        self.assertEqual(judged(game_of(*parts), talk), ("believed",))
        self.refused(parts, (("claims", (2,)), ("say", (1, 1))), NoCount, 1)
        self.refused(parts, put(talk, 3, ("say", (1,))), NoCount, 3)

    def test_no_numbers(self):
        for parts, talk in BOTH:
            for place, row in enumerate(talk):
                many = 1 if row[0] == "coin" else len(row[1])
                for at in range(many):
                    for value in NO_NUMBERS:
                        wrong = put(talk, place, with_value(row, at, value))
                        self.refused(parts, wrong, NoNumber, place)
                        self.refused(parts, wrong + talk[place + 1:], NoNumber, place)

    def test_no_turn_ahead_of_no_count_ahead_of_no_number(self):
        self.refused(ONE, (("say", (7, 7, 7)),), NoTurn, 0)
        self.refused(ONE, (("coin", 7),), NoTurn, 0)
        self.refused(ONE, (("claims", (7, 7)),), NoCount, 0)
        self.refused(ONE, (("claims", (1,)), ("claims", (7, -1, None))), NoTurn, 1)
        self.refused(ONE, (("claims", (1,)), ("coin", 7)), NoTurn, 1)
        self.refused(ONE, (("claims", (1,)), ("say", (True, 0, 1))), NoCount, 1)
        self.refused(ONE, (("claims", (1,)), ("say", (0, 1)), ("say", (7,))), NoTurn, 2)
        self.refused(TWO, (("claims", (1, 2)), ("say", (6, 1, 9))), NoTurn, 1)
        self.refused(TWO, (("claims", (9,)),), NoCount, 0)

    def test_of_two_wrong_rows_the_first(self):
        self.refused(ONE, (("claims", (7,)), ("coin", 1)), NoNumber, 0)
        self.refused(ONE, (("claims", ()), ("say", (0, 7))), NoCount, 0)
        self.refused(ONE, (("claims", (1,)), ("say", (0, 7)), ("say", ())), NoNumber, 1)
        self.refused(ONE, ONE_TALK[:2] + (("coin", -1), ("claims", (1,))), NoNumber, 2)
        self.refused(TWO, TWO_TALK[:1] + (("say", (6, 1)), ("coin", 7)), NoTurn, 1)

    def test_a_talk_of_another_game(self):
        self.refused(ONE, TWO_TALK, NoCount, 0)
        self.refused(TWO, ONE_TALK, NoCount, 0)
        self.refused(("x y", ["(x and y)"], 3), ONE_TALK, NoNumber, 2)
        self.refused(("x", ["x"], 7), ONE_TALK, NoTurn, 3)
        self.refused(("", ["yes"], 7), ONE_TALK, NoTurn, 1)

    def test_behind_a_refusal_right_talks_are_judged(self):
        game = game_of(*ONE)
        for talk in ((("coin", 1),), (("claims", (9,)),), ONE_TALK + ONE_TALK):
            self.assertIsNotNone(refusal(judged, game, talk))
            self.assertEqual(judged(game, ONE_TALK), ("believed",))


if __name__ == "__main__":
    unittest.main()
