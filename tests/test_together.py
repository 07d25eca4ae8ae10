"""What the program promises over the whole, for some small games: helpers of all kinds, by each row of coins."""

import itertools
import unittest

from asktally.doubter import told_ahead
from asktally.helptexts import helper_text, read_helper
from asktally.judging import judged
from asktally.liars import are_wrong, best_liar, honest, let_by_at_most
from asktally.machine import Machine
from asktally.talks import talked
from asktally.talktexts import read_talk, talk_text
from asktally.truth import counts_of
from asktally.weighing import weighed
from helper import HELPERS, HONEST, SMALL_GAMES, all_coins, by_turns, game_of, liar, off_in_round

GAMES = (
    ("", ["yes", "no"], 5),
    ("x", ["x"], 5),
    ("a x", ["x"], 5),
    ("x y", ["(x or (y and x))"], 5),
    ("x y", ["(x or (y and x))", "not y"], 5),
    ("x y", ["(x odd y)", "x", "(x and (y and x))"], 3),
)


def most(game, claims):
    """By how many rows of coins wrong claims are let by at most, by point 31."""
    p, n = game.field, len(game.switches)
    kept = 1
    for degree in game.degrees:
        kept *= p - degree
    if len(game.trees) == 1:
        return p ** n - kept
    blind = sum(game.mix(claims, s) == game.mix(counts_of(game), s) for s in range(p))
    return blind * p ** n + (p - blind) * (p ** n - kept)


def claimed(game, helper):
    """What a helper claims."""
    return Machine(game, helper).say(len(game.trees), 0, 0, [])


class Together(unittest.TestCase):
    def texts_for(self, game):
        trees = len(game.trees)
        more = [off_in_round(k) for k in range(len(game.switches) + 1)]
        return list(HELPERS) + more + [liar([1] * trees), helper_text(best_liar([2] * trees))]

    def test_who_says_what_is_true_is_believed(self):
        for parts in GAMES + SMALL_GAMES:
            game = game_of(*parts)
            for text in (HONEST, helper_text(honest())):
                for coins in all_coins(game):
                    doubter = by_turns(game, text, coins)[1]
                    self.assertEqual(doubter.waits(), ("believed",))
                    self.assertEqual(doubter.looked(), told_ahead(game))

    def test_who_claims_what_is_wrong_is_let_by_as_often_as_can_be(self):
        for parts in GAMES:
            game = game_of(*parts)
            for claims in itertools.product(range(game.field), repeat=len(game.trees)):
                if are_wrong(game, list(claims)):
                    number = most(game, list(claims))
                    self.assertEqual(let_by_at_most(game, list(claims)), number)
                    for text in (liar(claims), helper_text(best_liar(claims))):
                        ends = [by_turns(game, text, coins)[1].waits() for coins in all_coins(game)]
                        self.assertEqual(ends.count(("believed",)), number, (parts, claims))
                    self.assertEqual(weighed(game, best_liar(claims))[0], number)

    def test_wrong_claims_are_let_by_by_no_more_and_caught_by_one(self):
        for parts in GAMES + SMALL_GAMES:
            game = game_of(*parts)
            for text in self.texts_for(game):
                helper = read_helper(text)
                claims = claimed(game, helper)
                number, row = weighed(game, helper)
                if are_wrong(game, claims):
                    self.assertLessEqual(number, let_by_at_most(game, claims))
                    self.assertLess(number, game.field ** game.coins())
                    self.assertEqual(talked(game, helper, row)[1][0], "caught")
                    self.assertEqual(weighed(game, best_liar(claims))[0], let_by_at_most(game, claims))

    def test_weighing_tells_what_talks_do(self):
        for parts in GAMES + SMALL_GAMES:
            game = game_of(*parts)
            for text in self.texts_for(game):
                helper = read_helper(text)
                ends = [talked(game, helper, coins)[1] for coins in all_coins(game)]
                caught = [coins for coins, end in zip(all_coins(game), ends) if end != ("believed",)]
                told = (ends.count(("believed",)), caught[0] if caught else None)
                self.assertEqual(weighed(game, helper), told, (parts, text))

    def test_the_doubter_looks_at_no_more_places_than_told_ahead(self):
        for parts in GAMES + SMALL_GAMES:
            game = game_of(*parts)
            for text in self.texts_for(game):
                for coins in all_coins(game):
                    doubter = by_turns(game, text, coins)[1]
                    if doubter.waits() == ("believed",):
                        self.assertEqual(doubter.looked(), told_ahead(game))
                    else:
                        self.assertLessEqual(doubter.looked(), told_ahead(game))

    def test_a_talk_written_and_read_again_is_judged_as_it_ended(self):
        for parts in GAMES + SMALL_GAMES:
            game = game_of(*parts)
            for text in self.texts_for(game):
                helper = read_helper(text)
                for coins in all_coins(game):
                    talk, end = talked(game, helper, coins)
                    self.assertEqual(judged(game, read_talk(talk_text(talk))), end)
                    self.assertEqual(judged(game, talk), end)


if __name__ == "__main__":
    unittest.main()
