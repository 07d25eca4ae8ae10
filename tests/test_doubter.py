import itertools
import unittest

from asktally.doubter import Doubter, told_ahead
from asktally.errors import NoCount, NoNumber, NoTurn
from asktally.settings import size_of
from asktally.truth import counts_of, true_row
from helper import game_of, plain_mix, refusal

LARGE = 999983
BELIEVED = ("believed",)
COIN = ("coin",)

# x or (y and x) is x + x y - x x y: degrees 2 and 1, the count 2.
ONE_TREE = ("x y", ["(x or (y and x))"], 7)
TWO_TREES = ("x y", ["(x or (y and x))", "not y"], 7)
GAMES = (
    ("", ["yes"], 3),
    ("", ["yes", "no", "yes"], 5),
    ("x", ["(x and not x)"], 3),
    ("x", ["x", "(x same x)"], 5),
    ("x y", ["(x or (y and x))"], 3),
    ("a x", ["x"], 5),
    ("x y", ["(x or (y and x))", "not y", "(x odd y)"], 3),
    ("x y z", ["((x and y) or (y odd z))"], 5),
    ("x y z", ["((x and y) or not z)", "(z same x)"], 3),
)


def told(doubter, steps):
    """Tells steps to a doubter: a list or a tuple is heard, a number is tossed."""
    for step in steps:
        if isinstance(step, (list, tuple)):
            doubter.hear(step)
        else:
            doubter.toss(step)
    return doubter


def state(doubter):
    return doubter.waits(), doubter.due(), doubter.looked()


def honest_steps(game, coins):
    """What is told to a doubter by a helper that says what is true."""
    left = list(coins)
    steps = [[count % game.field for count in counts_of(game)]]
    s = 0
    if len(game.trees) > 1:
        s = left.pop(0)
        steps.append(s)
    for k in range(len(game.switches)):
        steps.append(true_row(game, s, left[:k]))
        steps.append(left[k])
    return steps


class Case(unittest.TestCase):
    def goes(self, doubter, steps):
        """Steps, each with what the doubter then waits for, holds and has looked at."""
        for step, waits, due, looked in steps:
            if isinstance(step, (list, tuple)):
                self.assertIsNone(doubter.hear(step))
            elif step is not None:
                self.assertIsNone(doubter.toss(step))
            self.assertEqual(state(doubter), (waits, due, looked))
            self.assertIs(doubter.waits().__class__, tuple)
            self.assertIs(doubter.due().__class__, int)
            self.assertIs(doubter.looked().__class__, int)


class Steps(Case):
    def test_one_tree(self):
        self.goes(Doubter(game_of(*ONE_TREE)), (
            (None, ("hear", 1), 0, 0),
            ([2], ("hear", 3), 2, 1),
            ([0, 2, 2], COIN, 2, 4),
            (3, ("hear", 2), 0, 5),
            ([3, 4], COIN, 0, 7),
            (5, BELIEVED, 1, 13),
        ))

    def test_two_trees(self):
        # Behind s = 2 the mix of x + x y - x x y and 1 - y: due is 2 + 2 * 2; round 1 is 3 x - x x + 2.
        self.goes(Doubter(game_of(*TWO_TREES)), (
            (None, ("hear", 2), 0, 0),
            ([2, 2], COIN, 0, 2),
            (2, ("hear", 3), 6, 3),
            ([2, 4, 4], COIN, 6, 6),
            (3, ("hear", 2), 2, 7),
            ([5, 4], COIN, 2, 9),
            (6, BELIEVED, 6, 17),
        ))

    def test_two_trees_and_the_mix_nought(self):
        self.goes(Doubter(game_of(*TWO_TREES)), (
            ([2, 5], COIN, 0, 2),
            (0, ("hear", 3), 2, 3),
            ([0, 2, 2], COIN, 2, 6),
            (3, ("hear", 2), 0, 7),
            ([3, 4], COIN, 0, 9),
            (6, BELIEVED, 2, 17),
        ))

    def test_a_switch_that_stands_in_no_tree(self):
        self.goes(Doubter(game_of("a x b", ["x"], 5)), (
            (None, ("hear", 1), 0, 0),
            ([4], ("hear", 1), 4, 1),
            ([2], COIN, 4, 2),
            (4, ("hear", 2), 2, 3),
            ([0, 2], COIN, 2, 5),
            (3, ("hear", 1), 1, 6),
            ([3], COIN, 1, 7),
            (0, BELIEVED, 3, 9),
        ))

    def test_no_switches_and_one_tree(self):
        for text, right in (("yes", 1), ("not yes", 0)):
            size = len(text.split())
            for claim in range(5):
                end = BELIEVED if claim == right else ("caught", 1)
                self.goes(Doubter(game_of("", [text], 5)), (
                    (None, ("hear", 1), 0, 0),
                    ([claim], end, claim, 1 + size),
                ))

    def test_no_switches_and_more_trees(self):
        game = game_of("", ["yes", "not yes", "yes"], 5)
        self.goes(Doubter(game), (
            (None, ("hear", 3), 0, 0),
            ((1, 0, 1), COIN, 0, 3),
            (3, BELIEVED, 0, 8),
        ))
        self.goes(Doubter(game), (
            ((1, 1, 1), COIN, 0, 3),
            (3, ("caught", 1), 3, 8),
        ))
        self.goes(Doubter(game), (
            ((1, 1, 1), COIN, 0, 3),
            (0, BELIEVED, 1, 8),
        ))

    def test_six_switches_and_four_trees(self):
        game = game_of("a b c d e f", ["(a and f)", "(a or (b and (c odd d)))", "(e same e)", "yes"], LARGE)
        coins = (5, 1, LARGE - 1, 77, 0, 123456, 8)
        doubter = Doubter(game)
        self.assertEqual(doubter.waits(), ("hear", 4))
        told(doubter, honest_steps(game, coins))
        self.assertEqual(state(doubter), (BELIEVED, plain_mix(game, coins[1:], 5) % LARGE, told_ahead(game)))


class Caught(Case):
    def test_in_each_round_where_the_row_does_not_add_up(self):
        game = game_of(*ONE_TREE)
        self.goes(Doubter(game), (
            ([2], ("hear", 3), 2, 1),
            ([0, 3, 2], ("caught", 1), 2, 4),
        ))
        self.goes(Doubter(game), (
            ([3], ("hear", 3), 3, 1),
            ([0, 2, 2], ("caught", 1), 3, 4),
        ))
        self.goes(Doubter(game), (
            ([2], ("hear", 3), 2, 1),
            ([0, 2, 2], COIN, 2, 4),
            (3, ("hear", 2), 0, 5),
            ([3, 3], ("caught", 2), 0, 7),
        ))

    def test_only_the_values_at_nought_and_one_are_added(self):
        self.goes(Doubter(game_of(*ONE_TREE)), (
            ([2], ("hear", 3), 2, 1),
            ([5, 4, 6], COIN, 2, 4),
        ))

    def test_one_number_counts_twice(self):
        game = game_of("a x", ["x"], 5)
        for number in range(5):
            waits = COIN if 2 * number % 5 == 2 else ("caught", 1)
            self.goes(Doubter(game), (([2], ("hear", 1), 2, 1), ([number], waits, 2, 2)))

    def test_at_the_end(self):
        self.goes(Doubter(game_of(*ONE_TREE)), (
            ([3], ("hear", 3), 3, 1),
            ([0, 3, 2], COIN, 3, 4),
            (0, ("hear", 2), 0, 5),
            ([1, 6], COIN, 0, 7),
            (2, ("caught", 3), 4, 13),
        ))

    def test_wrong_claims_believed_by_a_lucky_coin(self):
        game = game_of("x", ["x"], 5)
        self.goes(Doubter(game), (
            ([2], ("hear", 2), 2, 1),
            ([0, 2], COIN, 2, 3),
            (0, BELIEVED, 0, 5),
        ))
        self.goes(Doubter(game), (
            ([2], ("hear", 2), 2, 1),
            ([0, 2], COIN, 2, 3),
            (1, ("caught", 2), 2, 5),
        ))

    def test_in_the_second_round_with_two_trees(self):
        self.goes(Doubter(game_of(*TWO_TREES)), (
            ([2, 2], COIN, 0, 2),
            (2, ("hear", 3), 6, 3),
            ([2, 4, 4], COIN, 6, 6),
            (3, ("hear", 2), 2, 7),
            ([4, 4], ("caught", 2), 2, 9),
        ))


class Believed(Case):
    def test_who_says_what_is_true_by_every_row_of_coins(self):
        for parts in GAMES:
            game = game_of(*parts)
            for coins in itertools.product(range(game.field), repeat=game.coins()):
                doubter = told(Doubter(game), honest_steps(game, coins))
                self.assertEqual(doubter.waits(), BELIEVED)
                self.assertEqual(doubter.looked(), told_ahead(game))

    def test_at_the_end_by_the_mix_at_the_coins(self):
        game = game_of("x", ["x", "not x"], 5)
        for first, second, s, r in itertools.product(range(5), repeat=4):
            due = (1 + s) % 5
            # With right claims, any row (first, due - first) goes on to the last coin.
            doubter = told(Doubter(game), ([1, 1], s, [first, (due - first) % 5], r))
            held = (first + r * (due - 2 * first)) % 5
            end = BELIEVED if held == (r + s * (1 - r)) % 5 else ("caught", 2)
            self.assertEqual(state(doubter), (end, held, 2 + 1 + 2 + 1 + 3))
            # Wrong claims whose mix is the same are believed likewise.
            wrong = told(Doubter(game), ([(1 + s * second) % 5, (1 - second) % 5], s, [first, (due - first) % 5], r))
            self.assertEqual(state(wrong), state(doubter))


class Refused(Case):
    def refused(self, doubter, method, value, kind):
        before = state(doubter)
        error = refusal(getattr(doubter, method), value)
        self.assertIs(error.__class__, kind, (method, value))
        self.assertIsNone(error.row)
        self.assertEqual(state(doubter), before)

    def started(self, *steps):
        return told(Doubter(game_of(*TWO_TREES)), steps)

    def places(self):
        """A doubter at each step of a talk, with the steps that are left."""
        steps = ([2, 2], 2, [2, 4, 4], 3, [5, 4], 6)
        for done in range(len(steps) + 1):
            yield self.started(*steps[:done]), steps[done:]

    def ended(self):
        yield told(Doubter(game_of(*ONE_TREE)), ([2], [0, 2, 2], 3, [3, 4], 5))
        yield told(Doubter(game_of(*ONE_TREE)), ([3], [0, 3, 2], 0, [1, 6], 2))
        yield told(Doubter(game_of(*ONE_TREE)), ([2], [0, 3, 2]))
        yield told(Doubter(game_of("", ["yes"], 5)), ([1],))
        yield told(Doubter(game_of("", ["yes"], 5)), ([0],))

    def test_out_of_turn(self):
        for doubter, left in self.places():
            if left == () or isinstance(left[0], int):
                for many in range(4):
                    self.refused(doubter, "hear", [0] * many, NoTurn)
            if left == () or isinstance(left[0], list):
                for r in range(7):
                    self.refused(doubter, "toss", r, NoTurn)

    def test_behind_the_end(self):
        for doubter in self.ended():
            self.assertIn(doubter.waits()[0], ("believed", "caught"))
            for values in ([], [0], [0, 0], [0, 0, 0], (1,)):
                self.refused(doubter, "hear", values, NoTurn)
            for r in (0, 1, 6):
                self.refused(doubter, "toss", r, NoTurn)

    def test_more_and_fewer_numbers(self):
        for doubter, left in self.places():
            if left and isinstance(left[0], list):
                for many in (0, 1, 2, 3, 4, 9):
                    if many != len(left[0]):
                        self.refused(doubter, "hear", [0] * many, NoCount)
                        self.refused(doubter, "hear", (0,) * many, NoCount)

    def test_no_numbers_heard(self):
        for wrong in (7, 8, 999999999999, -1, -7, True, False, "1", "", None, "x", (), [], (1,), 1.0):
            for doubter, left in self.places():
                if left and isinstance(left[0], list):
                    for place in range(len(left[0])):
                        values = list(left[0])
                        values[place] = wrong
                        self.refused(doubter, "hear", values, NoNumber)
                        self.refused(doubter, "hear", tuple(values), NoNumber)

    def test_no_numbers_tossed(self):
        for wrong in (7, 8, 999999999999, -1, -7, True, False, "1", "", None, "x", (), [], 1.0):
            for doubter, left in self.places():
                if left and isinstance(left[0], int):
                    self.refused(doubter, "toss", wrong, NoNumber)

    def test_numbers_by_the_games_own_field(self):
        self.refused(Doubter(game_of("x", ["x"], 5)), "hear", [5], NoNumber)
        doubter = told(Doubter(game_of("x", ["x"], 11)), ([10],))
        self.assertEqual(doubter.due(), 10)
        doubter = told(Doubter(game_of("x", ["x"], LARGE)), ([LARGE - 1], [0, LARGE - 1]))
        self.refused(doubter, "toss", LARGE, NoNumber)
        doubter.toss(LARGE - 1)
        self.assertEqual(doubter.due(), 1)

    def test_turns_ahead_of_counts_ahead_of_numbers(self):
        for doubter, left in self.places():
            if left and isinstance(left[0], list):
                self.refused(doubter, "hear", [None] * (len(left[0]) + 1), NoCount)
                self.refused(doubter, "hear", [7] * (len(left[0]) - 1), NoCount)
                self.refused(doubter, "toss", None, NoTurn)
                self.refused(doubter, "toss", 7, NoTurn)
            else:
                self.refused(doubter, "hear", [], NoTurn)
                self.refused(doubter, "hear", [None], NoTurn)
                self.refused(doubter, "hear", [7, 7], NoTurn)

    def test_behind_refusals_the_talk_goes_on(self):
        doubter = Doubter(game_of(*TWO_TREES))
        for step in ([2, 2], 2, [2, 4, 4], 3, [5, 4], 6):
            if isinstance(step, int):
                self.refused(doubter, "hear", [1], NoTurn)
                self.refused(doubter, "toss", 7, NoNumber)
            else:
                self.refused(doubter, "toss", 1, NoTurn)
                self.refused(doubter, "hear", step + [0], NoCount)
                self.refused(doubter, "hear", step[:-1] + [7], NoNumber)
            told(doubter, (step,))
        self.assertEqual(state(doubter), (BELIEVED, 6, 17))


class Handed(Case):
    def test_lists_and_tuples_are_heard_and_stay(self):
        for kind in (list, tuple):
            claims, row = kind([2]), kind([0, 2, 2])
            doubter = told(Doubter(game_of(*ONE_TREE)), (claims, row, 3))
            self.assertEqual((claims, row), (kind([2]), kind([0, 2, 2])))
            self.assertEqual(state(doubter), (("hear", 2), 0, 5))

    def test_lists_changed_later(self):
        claims, row = [2, 2], [2, 4, 4]
        doubter = told(Doubter(game_of(*TWO_TREES)), (claims,))
        claims[0] = 5
        doubter.toss(2)
        self.assertEqual(doubter.due(), 6)
        doubter.hear(row)
        row[2] = 0
        row.clear()
        doubter.toss(3)
        self.assertEqual(doubter.due(), 2)

    def test_asking_changes_nothing(self):
        doubter = told(Doubter(game_of(*ONE_TREE)), ([2], [0, 2, 2]))
        self.assertEqual([state(doubter) for _ in range(3)], [(COIN, 2, 4)] * 3)

    def test_two_doubters_know_nothing_of_each_other(self):
        game = game_of(*ONE_TREE)
        one, other = Doubter(game), Doubter(game)
        told(one, ([2], [0, 2, 2], 3))
        self.assertEqual(state(other), (("hear", 1), 0, 0))
        told(other, ([5],))
        self.assertEqual((state(one), state(other)), ((("hear", 2), 0, 5), (("hear", 3), 5, 1)))
        self.assertEqual(game.degrees, [2, 1])


class Twin(Case):
    steps = ([2, 2], 2, [2, 4, 4], 3, [5, 4], 6)
    others = ([3, 1], 1, [4, 2, 0], 5, [0, 2], 1)

    def test_it_is_where_the_other_one_is(self):
        for done in range(len(self.steps) + 1):
            doubter = told(Doubter(game_of(*TWO_TREES)), self.steps[:done])
            twin = doubter.twin()
            self.assertIsNot(twin, doubter)
            self.assertIs(twin.__class__, Doubter)
            self.assertEqual(state(twin), state(doubter))

    def test_either_one_goes_on_by_itself_in_either_order(self):
        end = (BELIEVED, 6, 17)
        for done in range(len(self.steps)):
            for first in (0, 1):
                doubter = told(Doubter(game_of(*TWO_TREES)), self.steps[:done])
                both = (doubter, doubter.twin())
                before = state(doubter)
                # One is told another step, which the other one must not know of.
                told(both[first], self.others[done:done + 1])
                self.assertEqual(state(both[1 - first]), before)
                self.assertEqual(state(told(both[1 - first], self.steps[done:])), end)

    def test_in_turn(self):
        doubter = told(Doubter(game_of(*TWO_TREES)), self.steps[:1])
        twin = doubter.twin()
        for step in self.steps[1:]:
            told(doubter, (step,))
            told(twin, (step,))
            self.assertEqual(state(doubter), state(twin))
        self.assertEqual(state(twin), (BELIEVED, 6, 17))

    def test_twins_by_other_coins(self):
        game = game_of("x", ["x"], 5)
        doubter = told(Doubter(game), ([2], [0, 2]))
        ends = [told(doubter.twin(), (r,)).waits() for r in range(5)]
        self.assertEqual(ends, [BELIEVED] + [("caught", 2)] * 4)
        self.assertEqual(state(doubter), (COIN, 2, 3))

    def test_a_refusal_of_a_twin(self):
        doubter = told(Doubter(game_of(*ONE_TREE)), ([2],))
        twin = doubter.twin()
        self.assertIsInstance(refusal(twin.hear, [0]), NoCount)
        self.assertEqual(state(doubter), state(twin))


class ToldAhead(unittest.TestCase):
    def test_by_hand(self):
        self.assertEqual(told_ahead(game_of("", ["yes"], 3)), 1 + 0 + 1)
        self.assertEqual(told_ahead(game_of("", ["yes", "not no"], 3)), 2 + 1 + 3)
        self.assertEqual(told_ahead(game_of("x", ["x"], 3)), 1 + 1 + 2 + 1)
        self.assertEqual(told_ahead(game_of(*ONE_TREE)), 1 + 2 + 3 + 2 + 5)
        self.assertEqual(told_ahead(game_of(*TWO_TREES)), 2 + 3 + 3 + 2 + 5 + 2)
        self.assertEqual(told_ahead(game_of("a x b", ["x"], 5)), 1 + 3 + 1 + 2 + 1 + 1)
        self.assertEqual(told_ahead(game_of("a b c d e f", ["yes"] * 4, 5)), 4 + 7 + 6 + 4)

    def test_by_its_sum(self):
        for parts in GAMES:
            game = game_of(*parts)
            parts_of_it = [len(game.trees), game.coins(), len(game.switches), sum(game.degrees)]
            self.assertEqual(told_ahead(game), sum(parts_of_it) + sum(size_of(tree) for tree in game.trees))

    def test_a_doubter_that_does_not_believe_looks_at_no_more(self):
        game = game_of(*ONE_TREE)
        self.assertLess(told(Doubter(game), ([2], [0, 3, 2])).looked(), told_ahead(game))
        self.assertEqual(told(Doubter(game), ([3], [0, 3, 2], 0, [1, 6], 2)).looked(), told_ahead(game))

    def test_same_answer_at_any_time(self):
        game = game_of(*TWO_TREES)
        first = told_ahead(game)
        told(Doubter(game), ([2, 2], 2))
        self.assertEqual(told_ahead(game), first)


if __name__ == "__main__":
    unittest.main()
