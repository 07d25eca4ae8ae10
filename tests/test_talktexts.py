import copy
import itertools
import unittest

from asktally.errors import NoText
from asktally.helptexts import read_helper
from asktally.talks import talked
from asktally.talktexts import read_talk, talk_text
from helper import HELPERS, SMALL_GAMES, game_of, refusal

ROWS = (
    (("claims", (4,)), "claims 4"),
    (("claims", (0, 12, 345, 6)), "claims 0 12 345 6"),
    (("coin", 0), "coin 0"),
    (("coin", 999982), "coin 999982"),
    (("say", (7,)), "say 7"),
    (("say", (1, 0, 0, 10, 2)), "say 1 0 0 10 2"),
)
FIGURES = ("0", "1", "9", "10", "99", "123", "1000", "54321", "999983", "1234567", "10000000", "123456789", "1000000000")
LONG_FIGURES = ("99999999999", "100000000000", "999999999999")
NO_FIGURES = (
    "00", "01", "007", "1000000000000", "0999999999999", "+1", "-1", "-0", "1_0", "_1", "1_", "1.0", ".1", "1.", "x", "1x",
    "x1", "a", "0x1", "1e3", "1,", "(1)", "1/2", "\u0661", "1\u0661", "\u00b2",
)


class Both(unittest.TestCase):
    def same(self, talk, text):
        self.assertEqual(talk_text(talk), text)
        told = read_talk(text)
        self.assertEqual(told, talk)
        self.assertEqual(repr(told), repr(talk))
        self.assertEqual(talk_text(told), text)

    def test_without_rows(self):
        self.same((), "")

    def test_each_row_by_itself(self):
        for row, text in ROWS:
            self.same((row,), text)

    def test_a_whole_talk(self):
        talk = (("claims", (1, 2)), ("coin", 3), ("say", (6, 1)), ("coin", 5), ("say", (2, 0)), ("coin", 6))
        self.same(talk, "claims 1 2\ncoin 3\nsay 6 1\ncoin 5\nsay 2 0\ncoin 6")

    def test_rows_in_any_order(self):
        for picked in itertools.chain(itertools.product(ROWS, repeat=2), itertools.permutations(ROWS[::2])):
            self.same(tuple(row for row, _ in picked), "\n".join(text for _, text in picked))
        self.same((("coin", 1), ("claims", (2,)), ("claims", (2,)), ("coin", 1)), "coin 1\nclaims 2\nclaims 2\ncoin 1")

    def test_numbers(self):
        for figures in FIGURES + LONG_FIGURES:
            number = int(figures)
            self.same((("coin", number),), f"coin {figures}")
            for word in ("claims", "say"):
                self.same(((word, (number,)),), f"{word} {figures}")
                self.same(((word, (0, number, number, 1)),), f"{word} 0 {figures} {figures} 1")

    def test_many_numbers(self):
        for many in (2, 3, 16, 31, 500):
            for word in ("claims", "say"):
                self.same(((word, tuple(range(many))),), " ".join([word] + [str(number) for number in range(many)]))

    def test_many_rows(self):
        for many in (61, 1000):
            self.same((("coin", 5),) * many, "\n".join(["coin 5"] * many))

    def test_talks_that_were_told(self):
        for parts in SMALL_GAMES:
            game = game_of(*parts)
            for text in HELPERS:
                for first in range(3):
                    talk = talked(game, read_helper(text), [first] * game.coins())[0]
                    self.assertEqual(read_talk(talk_text(talk)), talk)


class Written(unittest.TestCase):
    def test_what_is_handed_in_stays(self):
        talk = tuple(row for row, _ in ROWS)
        kept = copy.deepcopy(talk)
        talk_text(talk)
        self.assertEqual(talk, kept)

    def test_same_answer_at_any_time(self):
        first = talk_text((("say", (1, 2)),))
        talk_text((("coin", 3), ("claims", (4,))))
        self.assertEqual(talk_text((("say", (1, 2)),)), first)


class Refused(unittest.TestCase):
    def refused(self, text, row):
        error = refusal(read_talk, text)
        self.assertIs(error.__class__, NoText, repr(text))
        self.assertEqual(error.row, row, repr(text))
        self.assertIs(error.row.__class__, int)

    def everywhere(self, row):
        """The row is refused by itself, ahead of others, behind others, and among them; of two the first is told."""
        self.refused(row, 0)
        self.refused(f"{row}\ncoin 1", 0)
        self.refused(f"{row}\n{row}", 0)
        self.refused(f"claims 1\n{row}", 1)
        self.refused(f"claims 1\nsay 1 2\n{row}\ncoin 3", 2)
        self.refused(f"coin 1\nsay 2\nclaims 3\n{row}\n\n{row}", 3)

    def test_no_figures(self):
        for figures in NO_FIGURES:
            self.everywhere(f"coin {figures}")
            for word in ("claims", "say"):
                self.everywhere(f"{word} {figures}")
                self.everywhere(f"{word} {figures} 1")
                self.everywhere(f"{word} 1 {figures}")
                self.everywhere(f"{word} 1 {figures} 2")

    def test_another_number_of_numbers(self):
        for row in ("claims", "coin", "say", "claims ", "coin ", "say ", "coin 1 2", "coin 1 1", "coin 1 2 3"):
            self.everywhere(row)

    def test_other_words(self):
        for word in (
            "claim", "claimss", "Claims", "CLAIMS", "claims:", "coins", "Coin", "coi", "sa", "says", "Say", "holds", "field",
            "believed", "caught", "open", "x", "1", "0", "(say", "say,", "say_",
        ):
            self.everywhere(f"{word} 1")
            self.everywhere(f"{word} 1 2")
            self.everywhere(word)

    def test_words_amid_numbers(self):
        for row in ("say 1 say 2", "claims 1 coin 2", "1 say", "1 2", "coin say 1", "say1", "claims1 2", "coin1", "say 1 coin"):
            self.everywhere(row)

    def test_blanks(self):
        for row in ("claims 1 2", "coin 1", "say 1 2", "say 3"):
            self.everywhere(" " + row)
            self.everywhere(row + " ")
            for place, sign in enumerate(row):
                if sign == " ":
                    self.everywhere(row[:place] + "  " + row[place + 1:])
        for row in (" ", "  ", "say\t1", "say 1\t2", "say\u00a01", "say 1\u00a02", " 1"):
            self.everywhere(row)

    def test_rows_without_signs(self):
        self.refused("\n", 0)
        self.refused("\n\n", 0)
        self.refused("\nclaims 1", 0)
        self.refused("claims 1\n", 1)
        self.refused("claims 1\n\n", 1)
        self.refused("claims 1\n\ncoin 2", 1)
        self.refused("claims 1\ncoin 2\n", 2)
        self.refused("claims 1\ncoin 2\n\nsay 1", 2)

    def test_a_blank_alone(self):
        self.refused(" ", 0)
        self.refused(" \n", 0)

    def test_the_first_wrong_row_is_told(self):
        self.refused("claims 1\ncoin\nsay", 1)
        self.refused("claims 1\ncoin 2\nsay 01\n\ncoin x", 2)
        self.refused("claims 1\ncoin 2\nsay 3\ncoin 1 2\n", 3)

    def test_other_signs_that_part_rows(self):
        for sign in ("\r\n", "\r", "\x0b", "\x0c", "\x1c", "\x85", "\u2028", ";", "\\n"):
            self.refused(f"coin 1{sign}coin 1", 0)

    def test_same_answer_at_any_time(self):
        text = "\n".join(text for _, text in ROWS)
        first = read_talk(text)
        self.refused("claims 1\nno", 1)
        self.assertEqual(read_talk(text), first)


if __name__ == "__main__":
    unittest.main()
