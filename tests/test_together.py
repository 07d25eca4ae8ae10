"""A machine and a doubter, talking by each row of coins."""

import itertools
import unittest

from asktally.doubter import Doubter, told_ahead
from asktally.helptexts import read_helper
from asktally.machine import Machine
from asktally.truth import counts_of
from helper import game_of

GAMES = (
    ("", ["yes", "no"], 5),
    ("x", ["x"], 5),
    ("a x", ["x"], 5),
    ("x y", ["(x or (y and x))"], 5),
    ("x y", ["(x or (y and x))", "not y"], 5),
    ("x y", ["(x odd y)", "x", "(x and (y and x))"], 3),
)
HONEST = "set i 0\nsay (true i)\nset i (+ i 1)\ngo 1"


def liar(claims):
    """Claims these, then says the true row but for the number at 1, so that the row adds up."""
    rows = ["say (true 0)", "say (- due (true 0))", "set i 2", "say (true i)", "set i (+ i 1)"]
    start = len(claims) + 2
    head = [f"if round {start}"] + [f"say {claim}" for claim in claims] + ["end"]
    halves = [f"if (= asked 1) {start + 7}"]
    return "\n".join(head + halves + rows + [f"go {start + 4}", "say (/ due 2)"])


def talked(game, text, coins):
    """The doubter, behind a talk with a helper by a row of coins."""
    machine, doubter = Machine(game, read_helper(text)), Doubter(game)
    doubter.hear(machine.say(len(game.trees), 0, 0, []))
    left, s = list(coins), 0
    if len(game.trees) > 1:
        s = left.pop(0)
        doubter.toss(s)
    tossed = []
    while doubter.waits()[0] == "hear":
        doubter.hear(machine.say(doubter.waits()[1], doubter.due(), s, tossed))
        if doubter.waits() == ("coin",):
            tossed.append(left.pop(0))
            doubter.toss(tossed[-1])
    return doubter


def most(game, claims):
    """By how many rows of coins wrong claims are let by at most, by point 31."""
    p, n = game.field, len(game.switches)
    kept = 1
    for degree in game.degrees:
        kept *= p - degree
    if len(game.trees) == 1:
        return p ** n - kept
    blind = sum(game.mix(claims, s) == game.mix(counts_of(game), s) for s in range(p))
    return blind * p ** n + (p - blind) * (p ** n - kept)


class Together(unittest.TestCase):
    def ends(self, game, text):
        return [talked(game, text, coins) for coins in itertools.product(range(game.field), repeat=game.coins())]

    def test_who_says_what_is_true_is_believed(self):
        for parts in GAMES:
            game = game_of(*parts)
            for doubter in self.ends(game, HONEST):
                self.assertEqual(doubter.waits(), ("believed",))
                self.assertEqual(doubter.looked(), told_ahead(game))

    def test_who_claims_what_is_wrong_is_let_by_as_often_as_can_be(self):
        for parts in GAMES:
            game = game_of(*parts)
            right = tuple(count % game.field for count in counts_of(game))
            for claims in itertools.product(range(game.field), repeat=len(game.trees)):
                if claims != right:
                    ends = [doubter.waits() for doubter in self.ends(game, liar(claims))]
                    self.assertEqual(ends.count(("believed",)), most(game, list(claims)), (parts, claims))


if __name__ == "__main__":
    unittest.main()
