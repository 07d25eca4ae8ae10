import copy
import unittest

from asktally.errors import TooMany
from asktally.helptexts import read_helper
from asktally.liars import best_liar, honest, idle
from asktally.talks import talked
from asktally.weighing import weighed
from helper import HELPERS, HONEST, SMALL_GAMES, all_coins, by_turns, game_of, liar, off_in_round, refusal

SIX = ("a b c d e f", ["((a or b) and ((c odd d) or (e and f)))"])
THREE = ("x y z", ["((x and y) or (z and y))"])


def by_talks(game, text):
    """What weighing is to tell, found by a talk for each row of coins."""
    number, row = 0, None
    for coins in all_coins(game):
        if by_turns(game, text, coins)[1].waits() == ("believed",):
            number += 1
        elif row is None:
            row = coins
    return number, row


class Weighed(unittest.TestCase):
    def weighed(self, parts, text, told):
        self.assertEqual(weighed(game_of(*parts), read_helper(text)), told)

    def test_as_many_as_by_talks(self):
        for parts in SMALL_GAMES:
            game = game_of(*parts)
            ones, twos = [1] * len(game.trees), [2] * len(game.trees)
            more = tuple(off_in_round(k) for k in range(len(game.switches) + 1))
            for text in HELPERS + (liar(ones), liar(twos)) + more:
                self.assertEqual(weighed(game, read_helper(text)), by_talks(game, text), (parts, text))

    def test_the_talks_by_the_row_told_and_ahead_of_it(self):
        for parts in SMALL_GAMES:
            game = game_of(*parts)
            for text in HELPERS:
                helper = read_helper(text)
                row = weighed(game, helper)[1]
                for coins in all_coins(game):
                    if coins == row:
                        self.assertEqual(talked(game, helper, coins)[1][0], "caught")
                        break
                    self.assertEqual(talked(game, helper, coins)[1], ("believed",))

    def test_by_hand(self):
        self.weighed(("x", ["x"], 7), HONEST, (7, None))
        self.weighed(("x", ["x"], 7), liar([2]), (1, (1,)))
        self.weighed(("x", ["x"], 7), "say 1", (1, (0,)))
        self.weighed(("x", ["x"], 7), "say 1\nsay 1", (0, (0,)))
        self.weighed(("x", ["(x and x)"], 7), liar([2]), (2, (1,)))
        self.weighed(("x", ["x", "not x"], 5), liar([2, 0]), (9, (0, 1)))

    def test_without_coins(self):
        for field in (3, 5, 999983):
            self.weighed(("", ["yes"], field), HONEST, (1, None))
            self.weighed(("", ["yes"], field), "say 1", (1, None))
            self.weighed(("", ["yes"], field), "", (0, ()))
            self.weighed(("", ["yes"], field), "say 2", (0, ()))

    def test_without_switches_by_the_mix_alone(self):
        self.weighed(("", ["yes", "no"], 5), HONEST, (5, None))
        self.weighed(("", ["no", "yes"], 5), "", (1, (1,)))
        self.weighed(("", ["yes", "no"], 5), "", (0, (0,)))
        self.weighed(("", ["yes", "yes"], 5), "", (1, (0,)))
        self.weighed(("", ["no", "yes", "yes"], 5), "", (2, (1,)))

    def test_a_talk_that_ends_early(self):
        self.weighed(("x y z", ["(x and (y or z))"], 5), off_in_round(1), (0, (0, 0, 0)))
        self.weighed(("x y z", ["(x and (y or z))"], 5), off_in_round(3), (0, (0, 0, 0)))
        self.weighed(("x y", ["(x and y)", "x"], 5), off_in_round(1), (0, (0, 0, 0)))
        late = "set i 0\nif (= (coin 1) 2) 5\nsay (true i)\nset i (+ i 1)\ngo 2\nsay (+ 1 (true 0))\nset i 1\ngo 2"
        self.weighed(("x y z", ["(x and (y or z))"], 5), late, (100, (2, 0, 0)))
        self.weighed(("x y", ["(x and y)", "x"], 5), late, (100, (2, 0, 0)))
        later = late.replace("(coin 1)", "(* (coin 1) (coin 2))")
        self.weighed(("x y z", ["(x and (y or z))"], 5), later, (105, (1, 2, 0)))

    def test_many_rows(self):
        self.weighed(("x", ["x"], 3989), HONEST, (3989, None))
        self.weighed(("x", ["x"], 3989), liar([5]), (1, (1,)))
        self.weighed(("", ["yes", "no"], 3989), HONEST, (3989, None))
        self.weighed(("", ["yes", "no"], 3989), "", (0, (0,)))
        self.weighed(SIX + (3,), HONEST, (729, None))
        self.weighed(SIX + (3,), liar([1]), (729 - 64, (1,) * 6))
        self.weighed(THREE + (11,), HONEST, (1331, None))
        self.weighed(THREE + (11,), liar([0]), (1331 - 10 * 9 * 10, (1, 1, 1)))
        self.weighed(("x y", ["x"], 61), HONEST, (3721, None))
        self.weighed((SIX[0], SIX[1] * 2, 3), HONEST, (2187, None))
        self.weighed(("x y z w u", ["x"], 5), HONEST, (3125, None))

    def test_boxes_go_on_by_themselves_for_each_coin(self):
        counting = "set i (+ i 1)\nif (< 3 i) 6\nsay (true 0)\nsay (true 1)\nend\nend\nsay (+ 1 due)"
        self.weighed(("x y", ["(x and y)"], 5), counting, (25, None))
        self.weighed(("x y z", ["(x and (y or z))"], 5), counting, (0, (0, 0, 0)))

    def test_kinds(self):
        for parts in SMALL_GAMES:
            game = game_of(*parts)
            for text in HELPERS:
                told = weighed(game, read_helper(text))
                self.assertIs(told.__class__, tuple)
                self.assertIs(told[0].__class__, int)
                if told[1] is not None:
                    self.assertIs(told[1].__class__, tuple)
                    self.assertEqual(len(told[1]), game.coins())
                    self.assertTrue(all(coin.__class__ is int for coin in told[1]))

    def test_what_is_handed_in_stays(self):
        game = game_of("x y", ["(x and y)", "x"], 5)
        kept = copy.deepcopy((game.switches, game.trees, game.field, game.degrees))
        helper = read_helper(liar([1, 1]))
        weighed(game, helper)
        self.assertEqual((game.switches, game.trees, game.field, game.degrees), kept)
        self.assertEqual(helper, read_helper(liar([1, 1])))

    def test_same_answer_at_any_time(self):
        asked = [(game_of(*parts), helper) for parts in SMALL_GAMES for helper in (honest(), idle(), best_liar([1] * 4))]
        first = [weighed(game, helper) for game, helper in asked]
        self.assertEqual([weighed(game, helper) for game, helper in reversed(asked)], first[::-1])


class Refused(unittest.TestCase):
    def refused(self, parts, rows):
        for helper in (honest(), idle(), read_helper("say 1")):
            error = refusal(weighed, game_of(*parts), helper)
            self.assertIs(error.__class__, TooMany)
            self.assertEqual(error.rows, rows)

    def test_more_than_can_be_weighed(self):
        self.refused(("x", ["x"], 4001), 4001)
        self.refused(("x", ["x"], 4003), 4003)
        self.refused(("", ["yes", "no"], 4001), 4001)
        self.refused(("x y", ["x"], 67), 4489)
        self.refused(("x", ["x", "x"], 67), 4489)
        self.refused(THREE + (17,), 4913)
        self.refused(SIX + (5,), 15625)
        self.refused(("x", ["x"], 999983), 999983)

    def test_far_more(self):
        self.refused(SIX + (999983,), 999983 ** 6)
        self.refused((SIX[0], SIX[1] * 4, 999983), 999983 ** 7)

    def test_behind_a_refusal(self):
        game = game_of("x", ["x"], 7)
        first = weighed(game, honest())
        self.assertIsNotNone(refusal(weighed, game_of("x", ["x"], 4001), honest()))
        self.assertEqual(weighed(game, honest()), first)


if __name__ == "__main__":
    unittest.main()
