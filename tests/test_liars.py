import itertools
import unittest

from asktally.games import Game
from asktally.helpers import look_helper
from asktally.helptexts import helper_text, read_helper
from asktally.liars import are_wrong, best_liar, blind_spots, honest, idle, let_by_at_most
from asktally.machine import Machine
from asktally.truth import counts_of
from asktally.weighing import weighed
from helper import SMALL_GAMES, all_coins, by_turns, game_of, plain_sum

# Counts above the field, switches in no tree, a degree one less than the field, rounds whose numbers leave the rest 0.
GAMES = SMALL_GAMES + (
    ("a b c d e f", ["yes"], 3),
    ("a b c d e f", ["(c or (d and d))", "f"], 3),
    ("a b c d e f", ["((a and b) or not (f odd f))"], 7),
    ("x y", ["((x and x) or (x odd (x and y)))"], 5),
    ("x y z", ["x", "y", "not z", "(x or (y or z))"], 999983),
)
CLAIMS = ([0], [3], [4, 1], [0, 0], [999982, 5, 999999999999], [1, 2, 3, 4], [999999999999] * 4, [100, 0, 0, 1])


def coins_for(game):
    """Some rows of r1 .. rn, with a mix ahead of each."""
    n, p = len(game.switches), game.field
    for step in (0, 1, 2, 3, 5):
        yield (step * 7 + 1) % p, [(step * (place + 2) + place * place) % p for place in range(n)]


def rounds_said(game, helper, claims, s, coins):
    """What a helper says: its claims, then for each round some due (of many, right and wrong) and its row."""
    machine = Machine(game, helper)
    said = [machine.say(len(game.trees), 0, 0, [])]
    due = game.mix(claims, s)
    for k, degree in enumerate(game.degrees):
        said.append((due, machine.say(degree + 1, due, s, list(coins[:k]))))
        due = (due * 3 + k + 1) % game.field
    return said


def true_numbers(game, s, ahead, degree):
    return [plain_sum(game, s, tuple(ahead) + (x,)) for x in range(degree + 1)]


class Honest(unittest.TestCase):
    def test_claims_the_counts_and_says_the_true_rows(self):
        for parts in GAMES:
            game = game_of(*parts)
            for s, coins in coins_for(game):
                s = s if len(game.trees) > 1 else 0
                claims = [count % game.field for count in counts_of(game)]
                said = rounds_said(game, honest(), claims, s, coins)
                self.assertEqual(said[0], claims)
                for k, degree in enumerate(game.degrees):
                    self.assertEqual(said[k + 1][1], true_numbers(game, s, coins[:k], degree))

    def test_is_believed_by_every_row_of_coins(self):
        for parts in SMALL_GAMES + (("a b c d e f", ["yes", "(e odd e)"], 3), ("x y", ["yes"], 3)):
            game = game_of(*parts)
            self.assertEqual(weighed(game, honest()), (game.field ** game.coins(), None))
            for coins in all_coins(game):
                self.assertEqual(by_turns(game, helper_text(honest()), coins)[1].waits(), ("believed",))


class Idle(unittest.TestCase):
    def test_has_no_rows(self):
        self.assertEqual(idle(), ())
        self.assertIs(idle().__class__, tuple)


class BestLiar(unittest.TestCase):
    def test_claims_by_their_rests(self):
        for claims in CLAIMS:
            texts = ["(x and y)", "x", "yes", "not y"][:len(claims)]
            for field in (5, 101, 999983):
                machine = Machine(game_of("x y", texts, field), best_liar(claims))
                self.assertEqual(machine.say(len(claims), 0, 0, []), [claim % field for claim in claims])

    def test_says_the_true_row_but_for_the_number_at_one(self):
        for parts in GAMES:
            game = game_of(*parts)
            right = counts_of(game)
            for claims in (right, [0] * len(right), [count + 1 for count in right], [999999999999] * len(right)):
                for s, coins in coins_for(game):
                    s = s if len(game.trees) > 1 else 0
                    said = rounds_said(game, best_liar(claims), claims, s, coins)
                    self.assertEqual(said[0], [claim % game.field for claim in claims])
                    for k, degree in enumerate(game.degrees):
                        self.row(game, said[k + 1], true_numbers(game, s, coins[:k], degree))

    def row(self, game, told, true):
        due, values = told
        if len(true) == 1:
            self.assertEqual(len(values), 1)
            self.assertEqual(values[0] * 2 % game.field, due)
            self.assertTrue(0 <= values[0] < game.field)
        else:
            self.assertEqual(values, [true[0], (due - true[0]) % game.field] + true[2:])

    def test_with_right_claims_it_is_believed(self):
        for parts in SMALL_GAMES:
            game = game_of(*parts)
            for more in (0, game.field, 3 * game.field):
                claims = [count + more for count in counts_of(game)]
                self.assertEqual(weighed(game, best_liar(claims)), (game.field ** game.coins(), None))

    def test_has_a_row_at_least(self):
        for claims in CLAIMS:
            self.assertGreaterEqual(len(best_liar(claims)), 1)

    def test_the_claims_stay(self):
        claims = [4, 1, 7]
        first = best_liar(claims)
        self.assertEqual(claims, [4, 1, 7])
        claims[1] = 3
        self.assertEqual(best_liar([4, 1, 7]), first)
        self.assertNotEqual(best_liar(claims), first)


class ReadyMade(unittest.TestCase):
    def all_made(self):
        return [honest(), idle()] + [best_liar(claims) for claims in CLAIMS]

    def test_are_let_by(self):
        for helper in self.all_made():
            self.assertIs(look_helper(helper), True)

    def test_are_written_and_read_again(self):
        for helper in self.all_made():
            told = read_helper(helper_text(helper))
            self.assertEqual(told, helper)
            self.assertEqual(repr(told), repr(helper))

    def test_kinds(self):
        for helper in self.all_made():
            self.assertIs(helper.__class__, tuple)
            self.assertTrue(all(row.__class__ is tuple for row in helper))

    def test_each_call_tells_a_new_helper(self):
        self.assertIsNot(honest(), honest())
        self.assertEqual(honest(), honest())
        for claims in CLAIMS:
            self.assertIsNot(best_liar(claims), best_liar(claims))
            self.assertEqual(best_liar(claims), best_liar(claims))
            self.assertEqual(best_liar(tuple(claims)), best_liar(claims))


class AreWrong(unittest.TestCase):
    def test_right_claims(self):
        for parts in GAMES:
            game = game_of(*parts)
            right = counts_of(game)
            for more in (0, 1, 2, 7):
                self.assertIs(are_wrong(game, [count + more * game.field for count in right]), False)
            self.assertIs(are_wrong(game, [count % game.field for count in right]), False)
            mixed = [count + place * game.field for place, count in enumerate(right)]
            self.assertIs(are_wrong(game, mixed), False)

    def test_one_wrong_and_all_wrong(self):
        for parts in GAMES:
            game = game_of(*parts)
            right = counts_of(game)
            for place in range(len(right)):
                for more in (1, 2, game.field - 1, game.field + 1):
                    claims = list(right)
                    claims[place] += more
                    self.assertIs(are_wrong(game, claims), True)
            self.assertIs(are_wrong(game, [count + 1 for count in right]), True)

    def test_the_claims_stay(self):
        game = game_of("x", ["x", "yes"], 5)
        for function in (are_wrong, blind_spots, let_by_at_most):
            claims = [6, 8]
            function(game, claims)
            self.assertEqual(claims, [6, 8])


class BlindSpots(unittest.TestCase):
    def spots(self, game, more):
        """Of claims that are above the counts by so much."""
        claims = [(count + above) % game.field for count, above in zip(counts_of(game), more)]
        for times in (0, 1, 5):
            told = blind_spots(game, [claim + times * game.field for claim in claims])
            self.assertIs(told.__class__, list)
            self.assertEqual(told, blind_spots(game, claims))
        return told

    def test_of_one_tree_there_is_none(self):
        for parts in SMALL_GAMES:
            game = game_of(*parts)
            if len(game.trees) == 1:
                for more in range(1, game.field):
                    self.assertEqual(self.spots(game, [more]), [])

    def test_one_two_and_three(self):
        for field in (5, 11, 101, 9973):
            two = game_of("x y", ["(x and y)", "x"], field)
            three = game_of("x y", ["(x and y)", "x", "yes"], field)
            four = game_of("x y", ["(x and y)", "x", "yes", "not y"], field)
            for a, b, c in ((0, 1, 2), (1, 2, 3), (0, 3, 4), (field - 3, field - 2, field - 1)):
                self.assertEqual(self.spots(two, [-a, 1]), [a])
                self.assertEqual(self.spots(three, [a * b, -a - b, 1]), [a, b])
                sums = [-a * b * c, a * b + b * c + a * c, -a - b - c, 1]
                self.assertEqual(self.spots(four, sums), [a, b, c])
                self.assertEqual(self.spots(four, [2 * more for more in sums]), [a, b, c])
                self.assertEqual(self.spots(three, [a * a, -2 * a, 1]), [a])
                self.assertEqual(self.spots(four, [0] + [a * b, -a - b, 1]), sorted({0, a, b}))

    def test_none_where_the_mixes_are_never_the_same(self):
        for field in (3, 7, 11, 9967):
            two = game_of("x y", ["(x and y)", "x"], field)
            three = game_of("x y", ["(x and y)", "x", "yes"], field)
            self.assertEqual(self.spots(two, [1, 0]), [])
            self.assertEqual(self.spots(three, [2, 0, 0]), [])
            self.assertEqual(self.spots(three, [1, 0, 1]), [])

    def test_as_the_mixes_tell(self):
        for parts in SMALL_GAMES:
            game = game_of(*parts)
            counts = counts_of(game)
            for claims in itertools.islice(itertools.product(range(game.field), repeat=len(counts)), 150):
                if any((claim - count) % game.field for claim, count in zip(claims, counts)):
                    spots = [
                        s for s in range(game.field)
                        if sum((a - b) * s ** e for e, (a, b) in enumerate(zip(claims, counts))) % game.field == 0
                    ]
                    self.assertEqual(blind_spots(game, list(claims)), spots)
                    self.assertLess(len(spots), len(counts))

    def test_told_anew_each_time(self):
        game = game_of("x y", ["(x and y)", "x"], 7)
        first = blind_spots(game, [3, 5])
        first.append(9)
        self.assertEqual(blind_spots(game, [3, 5]), first[:-1])


class LetByAtMost(unittest.TestCase):
    def most(self, parts, claims, number):
        told = let_by_at_most(game_of(*parts), claims)
        self.assertEqual(told, number)
        self.assertIs(told.__class__, int)

    def test_right_claims(self):
        self.most(("x y", ["(x and y)"], 7), [1], 49)
        self.most(("x y", ["(x and y)"], 7), [8], 49)
        self.most(("x y", ["(x and y)", "x"], 7), [1, 2], 343)
        self.most(("x y", ["(x and y)", "x"], 7), [71, 702], 343)
        self.most(("", ["yes"], 5), [1], 1)
        self.most(("", ["yes", "no"], 5), [1, 0], 5)
        self.most(("a b c d e f", ["yes"], 9973), [64], 9973 ** 6)
        self.most(("a b c d e f", ["yes", "a"], 9973), [64, 32], 9973 ** 7)

    def test_wrong_claims_of_one_tree(self):
        self.most(("x y", ["(x and y)"], 7), [2], 49 - 36)
        self.most(("x y", ["(x and y)"], 7), [0], 49 - 36)
        self.most(("x y", ["(x and (y or (x odd x)))"], 7), [6], 49 - 4 * 6)
        self.most(("x", ["x"], 7), [2], 1)
        self.most(("", ["yes"], 7), [0], 0)
        self.most(("a b c d e f", ["((a or b) and ((c odd d) or (e and f)))"], 9973), [0], 9973 ** 6 - 9972 ** 6)

    def test_a_switch_of_degree_nought_lets_no_one_by(self):
        self.most(("a x", ["x"], 5), [1], 5)
        self.most(("a b", ["yes"], 5), [1], 0)
        self.most(("a", ["yes", "no"], 5), [2, 1], 5)
        self.most(("a", ["yes", "no"], 5), [3, 0], 0)

    def test_wrong_claims_of_more_trees(self):
        parts = ("x y", ["(x and y)", "x"], 7)
        self.most(parts, [2, 2], 7 * 13)
        self.most(parts, [1, 3], 49 + 6 * 13)
        self.most(parts, [3, 4], 49 + 6 * 13)
        parts = ("x", ["x", "yes", "not x"], 5)
        self.most(parts, [1 + 2, 2 - 3 + 5, 1 + 1], 2 * 5 + 3 * 1)
        self.most(parts, [1 + 1, 2, 1], 5 * 1)
        self.most(parts, [1 + 4, 2 + 1, 1 + 1], 5 + 4 * 1)
        self.most(("", ["yes", "no"], 5), [0, 4], 1)
        self.most(("", ["yes", "no"], 5), [0, 0], 0)
        self.most(("", ["no", "no", "no"], 5), [2, 2, 1], 2)

    def test_wrong_claims_of_four_trees_in_a_great_field(self):
        parts = ("x y z", ["(x and y)", "x", "(y or (y and z))", "not x"], 9973)
        right = counts_of(game_of(*parts))
        rest = 9973 ** 3 - 9972 * 9971 * 9972
        for more, blind in (([-6, 11, -6, 1], 3), ([1, 0, 0, 0], 0), ([0, 0, 0, 5], 1), ([0, 0, 1, 1], 2)):
            claims = [(count + above) % 9973 for count, above in zip(right, more)]
            self.most(parts, claims, blind * 9973 ** 3 + (9973 - blind) * rest)

    def test_wrong_claims_are_let_by_by_fewer_than_all(self):
        for parts in SMALL_GAMES:
            game = game_of(*parts)
            for claims in itertools.islice(itertools.product(range(game.field), repeat=len(game.trees)), 100):
                if are_wrong(game, list(claims)):
                    self.assertLess(let_by_at_most(game, list(claims)), game.field ** game.coins())
                    self.assertGreaterEqual(let_by_at_most(game, list(claims)), 0)


class NoMore(unittest.TestCase):
    def claims_of(self, game):
        """Right claims, and wrong ones of several kinds."""
        right, p = counts_of(game), game.field
        made = [right, [count + p for count in right], [count + 1 for count in right], [0] * len(right)]
        for more in ([1], [-1, 1], [2, -3, 1], [0, 0, 1], [1, 0, 1, 0], [-6, 11, -6, 1]):
            above = (more + [0] * len(right))[:len(right)]
            made.append([(count + a) % p for count, a in zip(right, above)])
        return made

    def test_the_best_liar_is_let_by_by_just_so_many(self):
        for parts in SMALL_GAMES + (("a b c d", ["(c or (d and d))", "d"], 3), ("x", ["x", "yes", "no", "not x"], 13)):
            game = game_of(*parts)
            for claims in self.claims_of(game):
                most = let_by_at_most(game, claims)
                self.assertEqual(weighed(game, best_liar(claims))[0], most, (parts, claims))

    def test_the_best_liar_by_talks(self):
        for parts in SMALL_GAMES[:10]:
            game = game_of(*parts)
            for claims in self.claims_of(game)[:6]:
                text = helper_text(best_liar(claims))
                ends = [by_turns(game, text, coins)[1].waits() for coins in all_coins(game)]
                self.assertEqual(ends.count(("believed",)), let_by_at_most(game, claims), (parts, claims))

    def test_any_other_helper_by_no_more(self):
        lesser = (("end",), ("say", ("num", 1)), ("say", ("due",)), ("go", 0), ("set", "i", ("true", ("num", 1))))
        for parts in SMALL_GAMES[:11]:
            game = game_of(*parts)
            for claims in self.claims_of(game)[2:6]:
                helper = best_liar(claims)
                first = Machine(game, helper).say(len(claims), 0, 0, [])
                for place in range(len(helper)):
                    for row in lesser:
                        other = helper[:place] + (row,) + helper[place + 1:]
                        said = Machine(game, other).say(len(claims), 0, 0, [])
                        most = let_by_at_most(game, said)
                        told = weighed(game, other)[0]
                        self.assertLessEqual(told, most, (parts, claims, other))
                        if said == first:
                            self.assertLessEqual(told, let_by_at_most(game, claims))


class Stay(unittest.TestCase):
    def test_the_game_stays_and_the_answers_too(self):
        game = game_of("x y", ["(x and y)", "x"], 7)
        other = Game(["x"], [("is", "x")], 3)
        asked = ([1, 2], [3, 5], [0, 0], [1, 3])
        first = [(are_wrong(game, c), let_by_at_most(game, c), best_liar(c)) for c in asked]
        let_by_at_most(other, [2])
        self.assertEqual([(are_wrong(game, c), let_by_at_most(game, c), best_liar(c)) for c in asked], first)
        self.assertEqual((game.switches, game.field, game.degrees), (("x", "y"), 7, [1, 1]))


if __name__ == "__main__":
    unittest.main()
