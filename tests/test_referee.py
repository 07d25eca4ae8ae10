import copy
import itertools
import unittest

from asktally.helptexts import read_helper
from asktally.liars import best_liar, honest, idle
from asktally.machine import Machine
from asktally.referee import settled
from asktally.settings import all_settings, holds_at
from asktally.truth import counts_of
from helper import HELPERS, HONEST, SMALL_GAMES, game_of

AND = ("x y", ["(x and y)"], 7)
# Degrees of 0, 1, 2 and 3: two numbers are asked all the same.
MANY = ("a x y z", ["((x or (y and x)) odd (y and (z or y)))"], 11)
GAMES = tuple(parts for parts in SMALL_GAMES if len(parts[1]) == 1) + (
    AND,
    MANY,
    ("x y", ["(x or y)"], 3),
    ("a b c d e f", ["((a or b) and ((c odd d) or (e and f)))"], 3),
    ("a b c d e f", ["(a or not (f and c))"], 101),
)
SETTLED_HELPERS = HELPERS + (
    "say 2",
    "if told 4\nset told 1\nsay 3\nend\nsay (true 0)\nsay (- due (true 0))",
    "if told 4\nset told 1\nsay 4\nend\nsay (- due (true 1))\nsay (true 1)",
    "if told 4\nset told 1\nsay 2\nend\nsay (coin round)\nsay (- due (coin round))",
    "if told 4\nset told 1\nsay 1\nend\nsay (coin (- round 1))\nsay (- due (coin (- round 1)))",
    "if told 4\nset told 1\nsay 5\nend\nsay asked\nsay (- due asked)",
    "if told 4\nset told 1\nsay 6\nend\nsay (true asked)\nsay (- due (true asked))",
    "if told 4\nset told 1\nsay 6\nend\nset i (+ i due)\nsay i\nsay (- due i)",
)


def said(claim, *rows):
    """A helper that claims this, then says in each round what the row for it says; two terms each."""
    text = ["if told 4", "set told 1", f"say {claim}", "end"]
    # A box for each round: in a small field a count of the rounds would begin again.
    for box, (first, second) in zip("abcdef", rows):
        text += [f"if {box} {len(text) + 5}", f"set {box} 1", f"say {first}", f"say {second}", "end"]
    return read_helper("\n".join(text + ["end"]))


def steady(claim, first, second):
    """A helper that claims this, then says in each round the same two terms."""
    return read_helper(f"if told 4\nset told 1\nsay {claim}\nend\nsay {first}\nsay {second}")


def begun(game, ways):
    """At how many settings that begin so the tree holds."""
    rest = len(game.switches) - len(ways)
    settings = [tuple(ways) + setting for setting in all_settings(rest)]
    return len([setting for setting in settings if holds_at(game.trees[0], game.switches, setting)])


def by_turns(game, one, other):
    """What settled is to tell, by two machines asked in turn."""
    machines = Machine(game, one), Machine(game, other)
    held = [machine.say(1, 0, 0, [])[0] for machine in machines]
    if held[0] == held[1]:
        return "agreed", held[0]
    ways = []
    for _ in game.switches:
        rows = [machine.say(2, due, 0, list(ways)) for machine, due in zip(machines, held)]
        caught = [sum(row) % game.field != due for row, due in zip(rows, held)]
        if any(caught):
            return "caught", caught[0], caught[1], tuple(ways)
        way = 0 if rows[0][0] != rows[1][0] else 1
        held = [row[way] for row in rows]
        ways.append(way)
    truth = int(holds_at(game.trees[0], game.switches, tuple(ways)))
    return "caught", held[0] != truth, held[1] != truth, tuple(ways)


def turned(told):
    """What is told of two helpers, in the other order."""
    if told[0] == "agreed":
        return told
    return "caught", told[2], told[1], told[3]


class Settled(unittest.TestCase):
    def told(self, parts, one, other, told):
        game = game_of(*parts)
        self.assertEqual(settled(game, one, other), told)
        self.assertEqual(settled(game, other, one), turned(told))

    def test_the_same_claims(self):
        self.told(AND, honest(), honest(), ("agreed", 1))
        self.told(AND, honest(), read_helper("say 1"), ("agreed", 1))
        self.told(AND, honest(), read_helper("say 8"), ("agreed", 1))
        self.told(AND, read_helper("say 3"), read_helper("say 10"), ("agreed", 3))
        self.told(AND, idle(), read_helper("say 0"), ("agreed", 0))
        self.told(("x y", ["(x or y)"], 3), honest(), idle(), ("agreed", 0))

    def test_one_and_the_same_helper(self):
        for parts in GAMES:
            game = game_of(*parts)
            for text in SETTLED_HELPERS:
                helper = read_helper(text)
                claim = Machine(game, helper).say(1, 0, 0, [])[0]
                self.assertEqual(settled(game, helper, helper), ("agreed", claim))

    def test_without_switches(self):
        for text, true in (("yes", 1), ("no", 0)):
            parts = ("", [text], 7)
            for one, other in itertools.permutations(range(4), 2):
                helpers = [read_helper(f"say {claim}") for claim in (one, other)]
                self.assertEqual(settled(game_of(*parts), *helpers), ("caught", one != true, other != true, ()))
            self.told(parts, honest(), read_helper(f"say {true + 7}"), ("agreed", true))
        self.told(("", ["yes"], 7), honest(), idle(), ("caught", False, True, ()))
        self.told(("", ["no"], 7), read_helper("say 2"), read_helper("say 1"), ("caught", True, True, ()))

    def test_the_honest_one_against_the_idle_one(self):
        self.told(AND, honest(), idle(), ("caught", False, True, (1, 1)))
        self.told(("x", ["not x"], 7), honest(), idle(), ("caught", False, True, (0,)))
        self.told(("x y", ["(x odd y)"], 7), honest(), idle(), ("caught", False, True, (0, 1)))

    def test_the_honest_one_against_the_best_liar(self):
        self.told(AND, honest(), best_liar([2]), ("caught", False, True, (1, 1)))
        self.told(AND, honest(), best_liar([0]), ("caught", False, True, (1, 1)))
        self.told(MANY, honest(), best_liar([1]), ("caught", False, True, (1, 1, 1, 1)))

    def test_a_liar_by_the_first_number(self):
        self.told(AND, honest(), steady(3, "(- due (true 1))", "(true 1)"), ("caught", False, True, (0, 0)))

    def test_ways_that_change(self):
        liar = said(3, ("(true 0)", "(- due (true 0))"), ("(- due (true 1))", "(true 1)"))
        self.told(AND, honest(), liar, ("caught", False, True, (1, 0)))
        liar = said(3, ("(- due (true 1))", "(true 1)"), ("(true 0)", "(- due (true 0))"))
        self.told(AND, honest(), liar, ("caught", False, True, (0, 1)))

    def test_numbers_that_do_not_add_up_in_each_round(self):
        game = game_of(*MANY)
        fair = ("(true 0)", "(- due (true 0))")
        for number in range(1, 5):
            for foul in (("(true 0)", "(- (+ 1 due) (true 0))"), ("(+ 1 due)", "0"), ("0", "(- due 1)")):
                liar = said(1, *([fair] * (number - 1) + [foul]))
                self.told(MANY, honest(), liar, ("caught", False, True, (1,) * (number - 1)))
                other = said(2, *([fair] * (number - 1) + [foul]))
                self.told(MANY, liar, other, ("caught", True, True, (1,) * (number - 1)))
                longer = said(3, *([fair] * number + [foul]))
                self.told(MANY, liar, longer, ("caught", True, False, (1,) * (number - 1)))
        self.assertEqual(game.degrees, [0, 2, 3, 1])

    def test_sums_are_by_their_rests(self):
        self.told(AND, honest(), said(3, ("5", "5"), ("6", "6")), ("caught", False, True, (0, 0)))
        self.told(AND, honest(), said(3, ("5", "5"), ("6", "5")), ("caught", False, True, (0,)))

    def test_both_caught_at_the_end(self):
        one, other = steady(2, "(true 0)", "(- due (true 0))"), steady(3, "(true 0)", "(- due (true 0))")
        self.told(AND, one, other, ("caught", True, True, (1, 1)))

    def test_a_liar_may_win_against_a_liar(self):
        self.told(AND, steady(2, "1", "1"), steady(3, "(- due 1)", "1"), ("caught", True, False, (0,)))
        self.told(AND, said(2, ("1", "1"), ("0", "1")), said(3, ("2", "1"), ("1", "1")), ("caught", False, True, (0, 0)))

    def test_by_the_ways_gone_as_coins(self):
        by_first = said(3, ("0", "due"), ("(coin 1)", "(- due (coin 1))"))
        self.told(AND, honest(), by_first, ("caught", False, True, (1, 0)))
        by_second = said(3, ("0", "due"), ("(coin 2)", "(- due (coin 2))"))
        self.told(AND, honest(), by_second, ("caught", False, True, (1, 1)))
        by_none = said(3, ("(coin 1)", "(- due (coin 1))"), ("(coin 0)", "due"))
        self.told(AND, honest(), by_none, ("caught", False, True, (1, 1)))
        off = said(3, ("2", "1"), ("(+ 1 (coin 1))", "(- due (+ 1 (coin 1)))"))
        self.told(AND, honest(), off, ("caught", False, True, (0, 0)))

    def test_by_asked(self):
        for parts in (AND, MANY):
            claim = counts_of(game_of(*parts))[0] + 1
            game = game_of(*parts)
            ends = (1,) * len(game.switches)
            of_two = steady(claim, "(true (- asked 2))", "(- due (true (- asked 2)))")
            self.told(parts, honest(), of_two, ("caught", False, True, ends))

    def test_asked_is_one_for_the_claim(self):
        self.told(AND, honest(), read_helper("say asked"), ("agreed", 1))
        self.told(AND, honest(), read_helper("say (+ asked (+ round due))"), ("agreed", 1))

    def test_by_due(self):
        told = []
        for claim in (0, 2, 3, 4):
            helper = said(claim, ("(true 0)", "(- due (true 0))"), ("(- due 3)", "3"))
            told.append(settled(game_of(*AND), honest(), helper))
        self.assertEqual(told, [("caught", False, True, (1, w)) for w in (0, 0, 1, 0)])

    def test_what_is_true_by_the_ways_gone(self):
        for parts in GAMES:
            game = game_of(*parts)
            count, p = counts_of(game)[0], game.field
            for gone in all_settings(len(game.switches)):
                rows = []
                for k, way in enumerate(gone):
                    off, on = begun(game, gone[:k] + (0,)) % p, begun(game, gone[:k] + (1,)) % p
                    rows.append((str(off), f"(- due {off})") if way == 1 else (f"(- due {on})", str(on)))
                self.told(parts, honest(), said((count + 1) % p, *rows), ("caught", False, True, gone))

    def test_as_machines_asked_in_turn(self):
        for parts in GAMES:
            game = game_of(*parts)
            for one, other in itertools.product([read_helper(text) for text in SETTLED_HELPERS], repeat=2):
                self.assertEqual(settled(game, one, other), by_turns(game, one, other), (parts, one, other))

    def test_who_says_what_is_true_is_never_caught(self):
        for parts in GAMES:
            game = game_of(*parts)
            for text in SETTLED_HELPERS:
                for told in (settled(game, honest(), read_helper(text)), turned(settled(game, read_helper(text), honest()))):
                    self.assertTrue(told[0] == "agreed" or told[1:3] == (False, True), (parts, text))

    def test_where_they_do_not_agree_one_at_least_is_caught(self):
        for parts in GAMES:
            game = game_of(*parts)
            for one, other in itertools.product(SETTLED_HELPERS, repeat=2):
                told = settled(game, read_helper(one), read_helper(other))
                self.assertTrue(told[0] == "agreed" or told[1] or told[2])

    def test_kinds(self):
        for parts in GAMES:
            game = game_of(*parts)
            for one, other in itertools.product(SETTLED_HELPERS, repeat=2):
                told = settled(game, read_helper(one), read_helper(other))
                self.assertIs(told.__class__, tuple)
                if told[0] == "agreed":
                    self.assertEqual((len(told), told[1].__class__), (2, int))
                else:
                    self.assertEqual((len(told), told[0]), (4, "caught"))
                    self.assertEqual((told[1].__class__, told[2].__class__, told[3].__class__), (bool, bool, tuple))
                    self.assertTrue(all(way.__class__ is int and way in (0, 1) for way in told[3]))
                    self.assertLessEqual(len(told[3]), len(game.switches))

    def test_what_is_handed_in_stays_and_the_answer_too(self):
        game = game_of(*MANY)
        kept = copy.deepcopy((game.switches, game.trees, game.field, game.degrees))
        one, other = read_helper(HONEST), steady(2, "(true 0)", "(- due (true 0))")
        first = settled(game, one, other)
        self.assertEqual(settled(game_of(*AND), other, one), ("caught", True, False, (1, 1)))
        self.assertEqual(settled(game, one, other), first)
        self.assertEqual((game.switches, game.trees, game.field, game.degrees), kept)
        self.assertEqual(one, read_helper(HONEST))


if __name__ == "__main__":
    unittest.main()
