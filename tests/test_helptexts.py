import copy
import unittest

from asktally.errors import NoText
from asktally.helpers import look_helper
from asktally.helptexts import helper_text, read_helper
from helper import refusal

X = ("box", "x")
TERMS = (
    (("num", 0), "0"),
    (("num", 7), "7"),
    (("num", 999999999999), "999999999999"),
    (X, "x"),
    (("box", "abcdef"), "abcdef"),
    (("round",), "round"),
    (("due",), "due"),
    (("asked",), "asked"),
    (("coin", ("num", 1)), "(coin 1)"),
    (("true", X), "(true x)"),
    (("op", "+", ("num", 1), X), "(+ 1 x)"),
    (("op", "-", X, ("num", 1)), "(- x 1)"),
    (("op", "*", ("round",), ("due",)), "(* round due)"),
    (("op", "/", ("due",), ("num", 2)), "(/ due 2)"),
    (("op", "=", ("asked",), ("num", 2)), "(= asked 2)"),
    (("op", "<", X, ("asked",)), "(< x asked)"),
)
HELPER = (
    (("set", "x", ("num", 0)), "set x 0"),
    (("say", ("true", X)), "say (true x)"),
    (("set", "x", ("op", "+", X, ("num", 1))), "set x (+ x 1)"),
    (("if", ("op", "<", X, ("asked",)), 1), "if (< x asked) 1"),
    (("go", 5), "go 5"),
    (("end",), "end"),
)
KEPT = ("yes", "no", "not", "and", "or", "odd", "same", "round", "due", "asked", "true", "coin")


def nested_coins(within):
    term, text = X, "x"
    for _ in range(within - 1):
        term, text = ("coin", term), f"(coin {text})"
    return term, text


def nested_first(within):
    term, text = X, "x"
    for _ in range(within - 1):
        term, text = ("op", "-", term, ("num", 1)), f"(- {text} 1)"
    return term, text


def nested_second(within):
    term, text = X, "x"
    for _ in range(within - 1):
        term, text = ("op", "/", ("num", 1), term), f"(/ 1 {text})"
    return term, text


def flat(leaves):
    """A term with so many leaves (2 * leaves - 1 terms), as flat as may be, and its text."""
    if leaves == 1:
        return X, "x"
    a, s = flat(leaves // 2)
    b, t = flat(leaves - leaves // 2)
    return ("op", "+", a, b), f"(+ {s} {t})"


def rows_of(term, text):
    """Each row with a term in it, and its text."""
    return (
        (("set", "a", term), f"set a {text}"),
        (("say", term), f"say {text}"),
        (("if", term, 3), f"if {text} 3"),
    )


class Both(unittest.TestCase):
    def same(self, helper, text):
        self.assertEqual(helper_text(helper), text)
        told = read_helper(text)
        self.assertEqual(told, helper)
        self.assertIs(told.__class__, tuple)
        self.assertEqual(repr(told), repr(helper))

    def test_without_rows(self):
        self.same((), "")

    def test_each_row_by_itself(self):
        for row, text in HELPER:
            self.same((row,), text)

    def test_each_term_in_each_row(self):
        for term, text in TERMS:
            for row, written in rows_of(term, text):
                self.same((row,), written)

    def test_terms_within_one_another(self):
        for a, s in TERMS:
            for word in ("coin", "true"):
                self.same((("say", (word, a)),), f"say ({word} {s})")
            for b, t in TERMS:
                for sign in "+-*/=<":
                    self.same((("say", ("op", sign, a, b)),), f"say ({sign} {s} {t})")

    def test_several_rows(self):
        self.same(tuple(row for row, _ in HELPER), "\n".join(text for _, text in HELPER))
        self.same((("end",), ("end",)), "end\nend")

    def test_figures(self):
        for figures in ("0", "1", "9", "10", "123456", "99999999999", "100000000000", "999999999999"):
            number = int(figures)
            self.same((("say", ("num", number)),), f"say {figures}")
            self.same((("go", number),), f"go {figures}")
            self.same((("if", ("num", number), number),), f"if {figures} {figures}")

    def test_words_of_rows_are_names(self):
        for name in ("set", "say", "if", "go", "end", "num", "op", "box", "is", "holds", "claims", "field", "a", "zzzzzz"):
            self.same((("set", name, ("box", name)),), f"set {name} {name}")
            self.same((("say", ("box", name)),), f"say {name}")
            self.same((("if", ("box", name), 0),), f"if {name} 0")
            self.same((("say", ("op", "-", ("box", name), ("box", name))),), f"say (- {name} {name})")

    def test_a_k_that_is_no_rows_number(self):
        for helper, text in (
            ((("go", 1),), "go 1"),
            ((("end",), ("if", X, 77)), "end\nif x 77"),
            ((("go", 999999999999),), "go 999999999999"),
        ):
            self.same(helper, text)
            self.assertIsNotNone(refusal(look_helper, helper))

    def test_eight_terms_within_one_another(self):
        for made in (nested_coins, nested_first, nested_second):
            for within in range(1, 9):
                for row, written in rows_of(*made(within)):
                    self.same((row,), written)

    def test_twenty_terms(self):
        nineteen = flat(10)
        self.same((("say", nineteen[0]),), f"say {nineteen[1]}")
        twenty = ("true", nineteen[0])
        for row, written in rows_of(twenty, f"(true {nineteen[1]})"):
            self.same((row,), written)
        self.same((("say", twenty),) * 3, "\n".join([f"say (true {nineteen[1]})"] * 3))

    def test_sixty_rows(self):
        for many in (59, 60):
            self.same((("end",),) * many, "\n".join(["end"] * many))


class Written(unittest.TestCase):
    def test_what_is_handed_in_stays(self):
        helper = tuple(row for row, _ in HELPER)
        kept = copy.deepcopy(helper)
        helper_text(helper)
        self.assertEqual(helper, kept)

    def test_same_answer_at_any_time(self):
        first = helper_text((("say", X),))
        helper_text((("go", 3), ("end",)))
        self.assertEqual(helper_text((("say", X),)), first)


class Refused(unittest.TestCase):
    def refused(self, text, row):
        error = refusal(read_helper, text)
        self.assertIs(error.__class__, NoText, repr(text))
        self.assertEqual(error.row, row, repr(text))
        self.assertIs(error.row.__class__, int)

    def everywhere(self, row):
        """The row is refused by itself, behind others, ahead of others, and among them."""
        self.refused(row, 0)
        self.refused(f"{row}\nend", 0)
        self.refused(f"{row}\n{row}", 0)
        self.refused(f"end\n{row}", 1)
        self.refused(f"say x\nend\n{row}\nend", 2)

    def test_rows_of_other_words(self):
        for row in ("x", "0", "yes", "End", "END", "ends", "sat x 1", "Set x 1", "say_ 1", "claims 1", "coin 1", "(end)"):
            self.everywhere(row)

    def test_a_row_left_out_of_its_words(self):
        for row in (
            "set", "set x", "set 1", "set (+ 1 2)", "say", "if", "if x", "if 1", "if (+ 1 2)", "go", "x 1", "x", "1 2",
        ):
            self.everywhere(row)

    def test_a_word_more(self):
        for row in (
            "set x 1 2", "set x y 1", "say 1 2", "say x y", "if x 1 2", "go 1 2", "go x 1", "end end", "end 1", "say 1 end",
        ):
            self.everywhere(row)

    def test_blanks(self):
        for text in ("set x (+ 1 y)", "say (coin 1)", "if (< x 2) 5", "go 5", "end"):
            self.everywhere(" " + text)
            self.everywhere(text + " ")
            for place, sign in enumerate(text):
                if sign == " ":
                    self.everywhere(text[:place] + "  " + text[place + 1:])
                    self.everywhere(text[:place] + text[place + 1:])
                if sign == "(":
                    self.everywhere(text[:place + 1] + " " + text[place + 1:])
                if sign == ")":
                    self.everywhere(text[:place] + " " + text[place:])
        for row in ("say(coin 1)", "if (< x 2)5", "say (coin(coin 1))", "say (+ (coin 1)(coin 2))", "say\t1", "go\t1", " "):
            self.everywhere(row)

    def test_brackets(self):
        for row in (
            "say (coin 1", "say coin 1)", "say (coin 1))", "say ((coin 1))", "say (1)", "say (x)", "say ()", "say (",
            "say )", "say (round)", "say (+ 1 2", "say + 1 2)", "say + 1 2", "say ((+ 1 2))", "say (+ 1 2))",
            "say (+ (1) 2)", "say (+ (coin 1 2)", "say (+ coin 1) 2)", "if (< x 2 5", "if (< x 2)) 5", "if (x) 5",
            "go (5)", "set (x) 5", "set x (5)", "end()", "(say 1)", "say [coin 1]",
        ):
            self.everywhere(row)

    def test_terms_of_other_words(self):
        for term in (
            "(coin)", "(true)", "(coin 1 2)", "(true 1 2)", "(+)", "(+ 1)", "(+ 1 2 3)", "(1 + 2)", "(coins 1)",
            "(Coin 1)", "(due 1)", "(round 1)", "(box x)", "(num 1)", "(x 1)", "(> 1 2)", "(<= 1 2)", "(== 1 2)",
            "(& 1 2)", "(// 1 2)", "(** 1 2)", "(++ 1 2)", "(op + 1 2)", "(not 1)", "+", "<", "coin", "true", "-1", "+1",
        ):
            for _, written in rows_of(X, term):
                self.everywhere(written)

    def test_no_figures(self):
        for figures in ("00", "01", "007", "1000000000000", "0999999999999", "+1", "1.0", "1_0", "0x1", "1e3", "x1", "1x"):
            self.everywhere(f"say {figures}")
            self.everywhere(f"say (coin {figures})")
            self.everywhere(f"if x {figures}")
            self.everywhere(f"go {figures}")
        for word in ("x", "round", "end", "(coin 1)"):
            self.everywhere(f"go {word}")
            self.everywhere(f"if x {word}")

    def test_no_names(self):
        for name in KEPT + ("abcdefg", "X", "xY", "x1", "x_y", "x-y", "x'", "~"):
            self.everywhere(f"set {name} 1")
        for name in ("yes", "no", "not", "and", "or", "odd", "same", "true", "coin", "abcdefg", "X", "x_y", "~"):
            self.everywhere(f"say {name}")
            self.everywhere(f"if {name} 0")
            self.everywhere(f"say (+ 1 {name})")
        self.everywhere("set 1 1")

    def test_nine_terms_within_one_another(self):
        for made in (nested_coins, nested_first, nested_second):
            for within in (9, 10, 12):
                for _, written in rows_of(*made(within)):
                    self.everywhere(written)
        self.refused("say " + nested_coins(2000)[1], 0)
        self.refused("say " + "(coin " * 3000, 0)

    def test_more_than_twenty_terms(self):
        for leaves in (11, 12, 16):
            for _, written in rows_of(*flat(leaves)):
                self.everywhere(written)
        self.everywhere(f"say (true (coin {flat(10)[1]}))")

    def test_a_sixty_first_row(self):
        for row in ("end", "say x", "", "nothing", "go 0"):
            self.refused("end\n" * 60 + row, 60)
        self.refused("end\n" * 62 + "end", 60)
        self.refused("end\n" * 60 + "x\nend", 60)

    def test_a_wrong_row_ahead_of_the_sixty_first(self):
        self.refused("end\n" * 30 + "no\n" + "end\n" * 40 + "end", 30)
        self.refused("end\n" * 59 + "\nend", 59)

    def test_rows_without_signs(self):
        self.refused("\n", 0)
        self.refused("\n\n", 0)
        self.refused("\nend", 0)
        self.refused("end\n", 1)
        self.refused("end\n\n", 1)
        self.refused("end\n\nend", 1)
        self.refused("end\nsay x\n", 2)
        self.refused("end\nsay x\n\nend", 2)

    def test_the_first_wrong_row_is_told(self):
        self.refused("end\nsay\nset", 1)
        self.refused("say 1\nset x 1\nif x\n\nno", 2)
        self.refused("end\nno\n", 1)

    def test_other_signs_that_part_rows(self):
        for sign in ("\r\n", "\r", "\x0b", "\x0c", "\x1c", "\x85", "\u2028", ";", "\\n"):
            self.refused(f"end{sign}end", 0)

    def test_other_scripts(self):
        for row in ("say \u0661", "say \u00e4", "set \u00e4 1", "go \u0661", "say\u00a01"):
            self.everywhere(row)

    def test_same_answer_at_any_time(self):
        text = "\n".join(text for _, text in HELPER)
        first = read_helper(text)
        self.refused("end\nno", 1)
        self.assertEqual(read_helper(text), first)


if __name__ == "__main__":
    unittest.main()
