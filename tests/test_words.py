import unittest

from asktally.words import is_figures, is_name

KEPT = ("yes", "no", "not", "and", "or", "odd", "same", "round", "due", "asked", "true", "coin")

# Letters and figures of other scripts, signs that Python's own isalpha or isdigit would take.
FOREIGN_LETTERS = ("\u00e4", "\u00df", "\u0131", "\u03b1", "\u0430", "\uff41", "\u1d43")
FOREIGN_FIGURES = ("\u00b2", "\u0661", "\u0967", "\uff11", "\u2460", "\U0001d7d9")
OTHER_SIGNS = (" ", "_", ".", "\n", "\r", "\t", "-", "+", "(", ")", "'", "`", "{", "@", "[", "/", ":", "\x00", "~")


def at_every_place(sign, text):
    return [text[:k] + sign + text[k:] for k in range(len(text) + 1)]


class Names(unittest.TestCase):
    def yes(self, text):
        self.assertIs(is_name(text), True, repr(text))

    def no(self, text):
        self.assertIs(is_name(text), False, repr(text))

    def test_lengths(self):
        self.no("")
        for length in range(1, 7):
            self.yes("b" * length)
        for length in (7, 8, 12, 100, 20000):
            self.no("b" * length)

    def test_each_letter(self):
        for letter in "abcdefghijklmnopqrstuvwxyz":
            self.yes(letter)
            self.yes("b" + letter + "q")
        self.yes("abcdef")
        self.yes("uvwxyz")

    def test_words_that_are_none(self):
        for word in KEPT:
            self.no(word)

    def test_kept_words_longer_and_shorter(self):
        for word in KEPT:
            for other in (word + "x", "x" + word, word[1:], word[:-1]):
                if other not in KEPT:
                    self.yes(other)
        self.yes("n")
        self.yes("nots")
        self.yes("ye")
        self.no("not")

    def test_words_of_the_texts_are_names(self):
        for word in ("is", "holds", "field", "set", "say", "if", "go", "end", "num", "box", "op", "claims", "switch"):
            self.yes(word)
        self.no("switches")

    def test_capitals(self):
        for text in ("A", "Z", "Ab", "aB", "abC", "Yes", "NOT"):
            self.no(text)

    def test_other_signs_at_any_place(self):
        for sign in OTHER_SIGNS + FOREIGN_LETTERS + FOREIGN_FIGURES + tuple("0123456789"):
            self.no(sign)
            for text in at_every_place(sign, "abc"):
                self.no(text)
        self.no("a\n")
        self.no("abcdef\n")

    def test_every_ascii_sign(self):
        for number in range(128):
            sign = chr(number)
            self.assertIs(is_name(sign), "a" <= sign <= "z", repr(sign))
            self.assertIs(is_name("b" + sign), "a" <= sign <= "z", repr(sign))


class Figures(unittest.TestCase):
    def yes(self, text):
        self.assertIs(is_figures(text), True, repr(text))

    def no(self, text):
        self.assertIs(is_figures(text), False, repr(text))

    def test_each_figure(self):
        for figure in "0123456789":
            self.yes(figure)
            self.yes("1" + figure)
            self.yes("1" + figure + "7")

    def test_lengths(self):
        self.no("")
        for length in range(1, 13):
            self.yes("1" * length)
            self.yes("9" * length)
        for length in (13, 14, 100, 5000):
            self.no("1" * length)
        self.yes("100000000000")
        self.no("1000000000000")

    def test_nought_ahead(self):
        self.yes("0")
        self.yes("10")
        for text in ("00", "01", "007", "000000000000", "000000000001"):
            self.no(text)

    def test_other_signs_at_any_place(self):
        for sign in OTHER_SIGNS + FOREIGN_LETTERS + FOREIGN_FIGURES + ("a", "e", "x", "A"):
            self.no(sign)
            for text in at_every_place(sign, "123"):
                self.no(text)

    def test_every_ascii_sign(self):
        for number in range(128):
            sign = chr(number)
            self.assertIs(is_figures(sign), "0" <= sign <= "9", repr(sign))
            self.assertIs(is_figures("7" + sign), "0" <= sign <= "9", repr(sign))

    def test_what_int_would_take(self):
        for text in ("+1", "-1", "1_000", " 1", "1 ", "1\n", "1.", "1.0", "1e3", "0x1"):
            self.no(text)


if __name__ == "__main__":
    unittest.main()
