import itertools
import unittest

from asktally.desk import counted, judge_of, most_of, talk_of, weigh_of
from asktally.errors import NoCount, NoField, NoName, NoNumber, NoRow, NoText, NoTurn, SmallField, TooMany, Twice
from asktally.helptexts import helper_text, read_helper
from asktally.judging import judged
from asktally.liars import best_liar, honest, let_by_at_most
from asktally.talks import talked
from asktally.talktexts import talk_text
from asktally.truth import counts_of
from asktally.weighing import weighed
from asktally.writer import game_text
from helper import HELPERS, HONEST, SMALL_GAMES, all_coins, game_of, liar, off_in_round, refusal

AND = "field 7\nswitches x y\nholds (x and y)"
TWO = "field 7\nswitches x y\nholds (x and y)\nholds not x"
NONE = "field 5\nswitches\nholds yes"
NONE_TWO = "field 5\nswitches\nholds yes\nholds no"
AND_TALK = "claims 1\nsay 0 1\ncoin 3\nsay 0 3\ncoin 5"
TWO_TALK = "claims 1 2\ncoin 3\nsay 6 1\ncoin 5\nsay 2 0\ncoin 6"

# Each wrong text of a game, with its class, the name of its field, and what this holds.
WRONG_GAMES = (
    ("", NoText, "row", 0),
    ("field 07\nswitches x\nholds x", NoText, "row", 0),
    ("field 7", NoText, "row", 1),
    ("field 7\nswitches x X\nholds x", NoText, "row", 1),
    ("field 7\nswitches x y", NoText, "row", 2),
    ("field 7\nswitches x\nholds x\n", NoText, "row", 3),
    ("field 8\nswitches x x\nholds (x and)", NoText, "row", 2),
    ("field 7\nswitches x y x\nholds x", Twice, "name", "x"),
    ("field 8\nswitches x y x\nholds z", Twice, "name", "x"),
    ("field 7\nswitches x y\nholds x\nholds (x or z)", NoName, "name", "z"),
    ("field 8\nswitches x y\nholds z", NoName, "name", "z"),
    ("field 8\nswitches x y\nholds x", NoField, "number", 8),
    ("field 999999999999\nswitches x y\nholds x", NoField, "number", 999999999999),
    ("field 1000003\nswitches x y\nholds x", NoField, "number", 1000003),
    ("field 3\nswitches x\nholds (x and (x and x))", SmallField, "degree", 3),
    ("field 3\nswitches\nholds yes\nholds yes\nholds yes\nholds yes", SmallField, "degree", 3),
)
WRONG_HELPERS = (
    ("\n", NoText, "row", 0),
    ("say", NoText, "row", 0),
    ("say 1\nsay x y", NoText, "row", 1),
    ("go 7\nsay 1\n", NoText, "row", 2),
    ("end\n" * 60 + "end", NoText, "row", 60),
    ("go 1", NoRow, "row", 0),
    ("say 1\nend\nif x 4\ngo 9", NoRow, "row", 2),
)
WRONG_TALKS = (
    ("\n", NoText, "row", 0),
    ("claims 1\nsay", NoText, "row", 1),
    ("coin 1\nsay 9 9 9\n", NoText, "row", 2),
    ("coin 1", NoTurn, "row", 0),
    ("claims 1\ncoin 1", NoTurn, "row", 1),
    ("claims 1\nclaims 1", NoTurn, "row", 1),
    ("claims 1\nsay 0 1\nclaims 1", NoTurn, "row", 2),
    (AND_TALK + "\ncoin 1", NoTurn, "row", 5),
    ("claims 1 2", NoCount, "row", 0),
    ("claims 1\nsay 9", NoCount, "row", 1),
    ("claims 7", NoNumber, "row", 0),
    ("claims 1\nsay 0 1\ncoin 7", NoNumber, "row", 2),
)
# No row of numbers by figures, whatever the number of numbers that is due.
NO_NUMBERS = (
    " ", "  ", "\n", "x", "1 x", "x 1", "01", "1 02", "00 1", "1_0", "1 1_0", "+1 2", "-1 2", "1  2", " 1 2", "1 2 ",
    "1\n2", "1 2\n", "\n1 2", "1,2", "1.0 2", "1000000000000", "1 1000000000000", "1\t2", "\u0661 2", "coin 1", "(1) 2",
)


class Asked(unittest.TestCase):
    def answered(self, told, text):
        self.assertEqual(told, text)
        self.assertIs(told.__class__, str)


class Counted(Asked):
    def test_words(self):
        self.answered(counted(AND), "counts 1")
        self.answered(counted(TWO), "counts 1 2")
        self.answered(counted(NONE), "counts 1")
        self.answered(counted(NONE_TWO), "counts 1 0")
        self.answered(counted("field 3\nswitches a b c d e f\nholds yes\nholds a\nholds no"), "counts 64 32 0")
        self.answered(counted("field 999983\nswitches x y z w\nholds (x or (y and not z))"), "counts 10")

    def test_as_counts_of(self):
        for parts in SMALL_GAMES:
            game = game_of(*parts)
            text = game_text(game.switches, game.trees, game.field)
            self.answered(counted(text), " ".join(["counts"] + [str(count) for count in counts_of(game)]))


class TalkOf(Asked):
    def test_words(self):
        self.answered(talk_of(AND, HONEST, "3 5"), AND_TALK + "\nbelieved")
        self.answered(talk_of(TWO, HONEST, "3 5 6"), TWO_TALK + "\nbelieved")
        self.answered(talk_of(AND, off_in_round(1), "3 5"), "claims 1\nsay 1 1\ncaught 1")
        self.answered(talk_of(AND, off_in_round(2), "3 5"), "claims 1\nsay 0 1\ncoin 3\nsay 1 3\ncaught 2")
        self.answered(talk_of(AND, liar([2]), "3 5"), "claims 2\nsay 0 2\ncoin 3\nsay 0 6\ncoin 5\ncaught 3")
        self.answered(talk_of(AND, "", "0 6"), "claims 0\nsay 0 0\ncoin 0\nsay 0 0\ncoin 6\nbelieved")

    def test_without_coins(self):
        self.answered(talk_of(NONE, HONEST, ""), "claims 1\nbelieved")
        self.answered(talk_of(NONE, "", ""), "claims 0\ncaught 1")
        self.answered(talk_of(NONE_TWO, HONEST, "4"), "claims 1 0\ncoin 4\nbelieved")
        self.answered(talk_of(NONE_TWO, "", "0"), "claims 0 0\ncoin 0\ncaught 1")

    def test_as_talked(self):
        for parts in SMALL_GAMES:
            game = game_of(*parts)
            text = game_text(game.switches, game.trees, game.field)
            for helper in HELPERS:
                for coins in all_coins(game)[::7]:
                    talk, end = talked(game, read_helper(helper), coins)
                    words = talk_text(talk) + "\n" + " ".join(str(word) for word in end)
                    self.answered(talk_of(text, helper, " ".join(str(coin) for coin in coins)), words)


class JudgeOf(Asked):
    def test_words(self):
        self.answered(judge_of(AND, AND_TALK), "believed")
        self.answered(judge_of(TWO, TWO_TALK), "believed")
        self.answered(judge_of(AND, "claims 1\nsay 1 1"), "caught 1")
        self.answered(judge_of(AND, "claims 1\nsay 0 1\ncoin 3\nsay 1 3"), "caught 2")
        self.answered(judge_of(AND, "claims 2\nsay 0 2\ncoin 3\nsay 0 6\ncoin 5"), "caught 3")
        self.answered(judge_of(AND, "claims 2"), "open")
        self.answered(judge_of(AND, ""), "open")
        self.answered(judge_of(NONE, ""), "open")
        self.answered(judge_of(NONE, "claims 1"), "believed")
        self.answered(judge_of(NONE, "claims 4"), "caught 1")
        self.answered(judge_of(NONE_TWO, "claims 1 0"), "open")
        self.answered(judge_of(NONE_TWO, "claims 1 0\ncoin 0"), "believed")

    def test_each_beginning_of_a_talk(self):
        for parts in SMALL_GAMES:
            game = game_of(*parts)
            text = game_text(game.switches, game.trees, game.field)
            for helper in HELPERS:
                rows = talk_of(text, helper, " ".join(["2"] * game.coins())).split("\n")
                for many in range(len(rows) - 1):
                    self.answered(judge_of(text, "\n".join(rows[:many])), "open")
                self.answered(judge_of(text, "\n".join(rows[:-1])), rows[-1])


class WeighOf(Asked):
    def test_words(self):
        self.answered(weigh_of(AND, HONEST), "let by 49 of 49")
        self.answered(weigh_of(TWO, HONEST), "let by 343 of 343")
        self.answered(weigh_of(AND, liar([2])), "let by 13 of 49 caught by 1 1")
        self.answered(weigh_of(TWO, liar([2, 2])), "let by 91 of 343 caught by 0 1 1")
        self.answered(weigh_of(AND, off_in_round(2)), "let by 0 of 49 caught by 0 0")
        self.answered(weigh_of("field 3989\nswitches x\nholds x", liar([2])), "let by 1 of 3989 caught by 1")

    def test_without_coins(self):
        self.answered(weigh_of(NONE, HONEST), "let by 1 of 1")
        self.answered(weigh_of(NONE, ""), "let by 0 of 1 caught by")
        self.answered(weigh_of(NONE_TWO, HONEST), "let by 5 of 5")
        self.answered(weigh_of(NONE_TWO, ""), "let by 0 of 5 caught by 0")

    def test_as_weighed(self):
        for parts in SMALL_GAMES:
            game = game_of(*parts)
            text = game_text(game.switches, game.trees, game.field)
            for helper in HELPERS:
                number, row = weighed(game, read_helper(helper))
                words = f"let by {number} of {game.field ** game.coins()}"
                if row is not None:
                    words += " caught by" + "".join(f" {coin}" for coin in row)
                self.answered(weigh_of(text, helper), words)


class MostOf(Asked):
    def test_words(self):
        self.answered(most_of(AND, "1"), "at most 49 of 49")
        self.answered(most_of(AND, "2"), "at most 13 of 49")
        self.answered(most_of(TWO, "1 2"), "at most 343 of 343")
        self.answered(most_of(TWO, "2 2"), "at most 91 of 343")
        self.answered(most_of(TWO, "1 3"), "at most 127 of 343")
        self.answered(most_of(NONE, "1"), "at most 1 of 1")
        self.answered(most_of(NONE, "0"), "at most 0 of 1")
        self.answered(most_of(NONE_TWO, "1 0"), "at most 5 of 5")
        self.answered(most_of(NONE_TWO, "0 4"), "at most 1 of 5")

    def test_more_rows_than_can_be_weighed(self):
        text = "field 9973\nswitches x y z\nholds (x and (y and z))\nholds yes"
        self.answered(most_of(text, "1 8"), f"at most {9973 ** 4} of {9973 ** 4}")
        fewer = 9973 ** 3 + 9972 * (9973 ** 3 - 9972 ** 3)
        self.answered(most_of(text, "1 9"), f"at most {fewer} of {9973 ** 4}")

    def test_as_let_by_at_most(self):
        for parts in SMALL_GAMES:
            game = game_of(*parts)
            text = game_text(game.switches, game.trees, game.field)
            for claims in itertools.islice(itertools.product(range(game.field), repeat=len(game.trees)), 40):
                most = let_by_at_most(game, list(claims))
                words = f"at most {most} of {game.field ** game.coins()}"
                self.answered(most_of(text, " ".join(str(claim) for claim in claims)), words)


class Refused(unittest.TestCase):
    def refused(self, wrong, function, *texts):
        kind, name, value = wrong
        error = refusal(function, *texts)
        self.assertIs(error.__class__, kind, texts)
        self.assertEqual(getattr(error, name), value, texts)
        self.assertIs(getattr(error, name).__class__, value.__class__)

    def test_a_games_text(self):
        for text, *wrong in WRONG_GAMES:
            self.refused(wrong, counted, text)
            self.refused(wrong, talk_of, text, HONEST, "3 5")
            self.refused(wrong, judge_of, text, AND_TALK)
            self.refused(wrong, weigh_of, text, HONEST)
            self.refused(wrong, most_of, text, "1")

    def test_a_helpers_text(self):
        for text, *wrong in WRONG_HELPERS:
            for game, coins in ((AND, "3 5"), (TWO, "3 5 6"), (NONE, ""), (NONE_TWO, "3")):
                self.refused(wrong, talk_of, game, text, coins)
                self.refused(wrong, weigh_of, game, text)

    def test_a_talks_text(self):
        for text, *wrong in WRONG_TALKS:
            self.refused(wrong, judge_of, AND, text)

    def test_coins_and_claims_that_are_no_such_text(self):
        for text in NO_NUMBERS:
            for game in (AND, TWO, NONE, NONE_TWO):
                self.refused((NoText, "row", 0), talk_of, game, HONEST, text)
                self.refused((NoText, "row", 0), most_of, game, text)

    def test_more_and_fewer(self):
        wrong = (NoCount, "row", None)
        for game, many in ((AND, 2), (TWO, 3), (NONE, 0), (NONE_TWO, 1)):
            for other in range(6):
                if other != many:
                    self.refused(wrong, talk_of, game, HONEST, " ".join(["1"] * other))
        for game, many in ((AND, 1), (TWO, 2), (NONE, 1), (NONE_TWO, 2)):
            for other in range(6):
                if other != many:
                    self.refused(wrong, most_of, game, " ".join(["1"] * other))

    def test_none_of_the_field(self):
        wrong = (NoNumber, "row", None)
        for number in ("7", "8", "100", "999999999999"):
            for coins in (f"{number} 1", f"1 {number}", f"{number} {number}"):
                self.refused(wrong, talk_of, AND, HONEST, coins)
                self.refused(wrong, most_of, TWO, coins)
            self.refused(wrong, most_of, AND, number)
            self.refused(wrong, talk_of, NONE_TWO, HONEST, number)
        self.refused(wrong, talk_of, AND, off_in_round(1), "1 7")
        self.assertIsNone(refusal(talk_of, AND, HONEST, "6 6"))
        self.assertIsNone(refusal(most_of, TWO, "6 6"))

    def test_no_text_ahead_of_no_count_ahead_of_no_number(self):
        self.refused((NoText, "row", 0), talk_of, AND, HONEST, "7 8 09")
        self.refused((NoText, "row", 0), talk_of, AND, HONEST, "7 8 9 ")
        self.refused((NoCount, "row", None), talk_of, AND, HONEST, "7 8 9")
        self.refused((NoCount, "row", None), talk_of, AND, HONEST, "7")
        self.refused((NoText, "row", 0), most_of, AND, "7 x")
        self.refused((NoCount, "row", None), most_of, AND, "7 9")
        self.refused((NoCount, "row", None), most_of, TWO, "7")

    def test_too_many(self):
        for game, rows in (
            ("field 4001\nswitches x\nholds x", 4001),
            ("field 67\nswitches x\nholds x\nholds x", 4489),
            ("field 999983\nswitches a b c d e f\nholds a\nholds f", 999983 ** 7),
        ):
            for helper in ("", HONEST, "say 1"):
                self.refused((TooMany, "rows", rows), weigh_of, game, helper)
            for text, *wrong in WRONG_HELPERS:
                self.refused(wrong, weigh_of, game, text)

    def test_of_two_wrong_texts_the_first(self):
        for text, *wrong in WRONG_GAMES:
            for helper, *_ in WRONG_HELPERS:
                self.refused(wrong, weigh_of, text, helper)
                self.refused(wrong, talk_of, text, helper, "3 5")
                self.refused(wrong, talk_of, text, helper, "x")
            for talk, *_ in WRONG_TALKS:
                self.refused(wrong, judge_of, text, talk)
            for numbers in ("", "x", "1 2 3 4 5", "9 9", "9"):
                self.refused(wrong, talk_of, text, HONEST, numbers)
                self.refused(wrong, most_of, text, numbers)
        for text, *wrong in WRONG_HELPERS:
            for coins in ("", "x", "1", "1 2 3", "7 7", "1 2 "):
                self.refused(wrong, talk_of, AND, text, coins)

    def test_behind_a_refusal_right_texts_are_answered_as_ahead(self):
        asked = (
            (counted, TWO), (talk_of, TWO, HONEST, "3 5 6"), (judge_of, AND, AND_TALK), (weigh_of, AND, HONEST), (most_of, TWO, "2 2"),
        )
        first = [function(*texts) for function, *texts in asked]
        for text, *wrong in WRONG_GAMES:
            for function, _, *texts in asked:
                self.refused(wrong, function, text, *texts)
            self.assertEqual([function(*texts) for function, *texts in asked], first)
        for text, *wrong in WRONG_HELPERS:
            self.refused(wrong, talk_of, TWO, text, "3 5 6")
            self.refused(wrong, weigh_of, AND, text)
        for text, *wrong in WRONG_TALKS:
            self.refused(wrong, judge_of, AND, text)
        for text in NO_NUMBERS:
            self.refused((NoText, "row", 0), talk_of, TWO, HONEST, text)
            self.refused((NoText, "row", 0), most_of, TWO, text)
        self.assertEqual([function(*texts) for function, *texts in asked], first)


class ReadyMade(Asked):
    def test_helpers_by_their_texts(self):
        for parts in SMALL_GAMES:
            game = game_of(*parts)
            text = game_text(game.switches, game.trees, game.field)
            every = game.field ** game.coins()
            self.answered(weigh_of(text, helper_text(honest())), f"let by {every} of {every}")
            wrong = [(count + 1) % game.field for count in counts_of(game)]
            claims = " ".join(str(claim) for claim in wrong)
            told = weigh_of(text, helper_text(best_liar(wrong)))
            self.assertTrue(told.startswith("let by " + most_of(text, claims)[len("at most "):] + " caught by"))

    def test_talks_by_their_texts(self):
        for parts in SMALL_GAMES:
            game = game_of(*parts)
            text = game_text(game.switches, game.trees, game.field)
            talk, end = talked(game, honest(), [1] * game.coins())
            self.answered(judge_of(text, talk_text(talk)), "believed")
            self.assertEqual(judged(game, talk), end)


if __name__ == "__main__":
    unittest.main()
