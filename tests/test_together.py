"""A machine and a doubter, talking by each row of coins."""

import itertools
import unittest

from asktally.doubter import told_ahead
from asktally.truth import counts_of
from helper import HONEST, all_coins, by_turns, game_of, liar

GAMES = (
    ("", ["yes", "no"], 5),
    ("x", ["x"], 5),
    ("a x", ["x"], 5),
    ("x y", ["(x or (y and x))"], 5),
    ("x y", ["(x or (y and x))", "not y"], 5),
    ("x y", ["(x odd y)", "x", "(x and (y and x))"], 3),
)


def most(game, claims):
    """By how many rows of coins wrong claims are let by at most, by point 31."""
    p, n = game.field, len(game.switches)
    kept = 1
    for degree in game.degrees:
        kept *= p - degree
    if len(game.trees) == 1:
        return p ** n - kept
    blind = sum(game.mix(claims, s) == game.mix(counts_of(game), s) for s in range(p))
    return blind * p ** n + (p - blind) * (p ** n - kept)


class Together(unittest.TestCase):
    def ends(self, game, text):
        return [by_turns(game, text, coins)[1] for coins in all_coins(game)]

    def test_who_says_what_is_true_is_believed(self):
        for parts in GAMES:
            game = game_of(*parts)
            for doubter in self.ends(game, HONEST):
                self.assertEqual(doubter.waits(), ("believed",))
                self.assertEqual(doubter.looked(), told_ahead(game))

    def test_who_claims_what_is_wrong_is_let_by_as_often_as_can_be(self):
        for parts in GAMES:
            game = game_of(*parts)
            right = tuple(count % game.field for count in counts_of(game))
            for claims in itertools.product(range(game.field), repeat=len(game.trees)):
                if claims != right:
                    ends = [doubter.waits() for doubter in self.ends(game, liar(claims))]
                    self.assertEqual(ends.count(("believed",)), most(game, list(claims)), (parts, claims))


if __name__ == "__main__":
    unittest.main()
