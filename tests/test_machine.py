import copy
import itertools
import unittest

from asktally.helptexts import read_helper
from asktally.machine import Machine
from helper import game_of, plain_sum

LARGE = 999983
ONE_TREE = game_of("x y", ["(x and y)"], 7)
TWO_TREES = game_of("x y", ["(x or (y and x))", "not y"], 7)


def machine(game, *rows):
    return Machine(game, read_helper("\n".join(rows)))


class Case(unittest.TestCase):
    def says(self, made, asked, numbers):
        """Asked are the arguments of say."""
        told = made.say(*asked)
        self.assertEqual(told, numbers)
        self.assertIs(told.__class__, list)
        self.assertTrue(all(number.__class__ is int for number in told))

    def worth(self, game, term, number, rounds=0, due=0, s=0, coins=(), many=1):
        """A term, asked in a round behind so many others."""
        made = machine(game, f"say {term}")
        for _ in range(rounds):
            made.say(1, 0, 0, [])
        self.says(made, (many, due, s, list(coins)), [number] + [0] * (many - 1))


class Rounds(Case):
    def test_round_nought_first_then_one_by_one(self):
        made = machine(game_of("x y", ["x"], LARGE), "say round")
        for number in range(12):
            self.says(made, (1, 0, 0, []), [number])

    def test_a_helper_without_rows(self):
        made = Machine(ONE_TREE, ())
        self.says(made, (1, 0, 0, []), [0])
        self.says(made, (3, 5, 0, []), [0, 0, 0])

    def test_boxes_hold_nought_at_first(self):
        made = machine(ONE_TREE, "say a", "set b 5", "say c")
        self.assertEqual([made.box(name) for name in ("a", "b", "c", "zzzzzz")], [0, 0, 0, 0])
        self.says(made, (2, 0, 0, []), [0, 0])
        self.assertEqual([made.box(name) for name in ("a", "b", "c", "zzzzzz")], [0, 5, 0, 0])

    def test_boxes_keep_what_they_hold_from_round_to_round(self):
        made = machine(ONE_TREE, "set a (+ a 3)", "say a")
        for number in (3, 6, 2, 5, 1):
            self.says(made, (1, 0, 0, []), [number])
            self.assertEqual(made.box("a"), number)

    def test_a_box_set_again(self):
        made = machine(ONE_TREE, "set a 3", "set b a", "set a 4", "say a", "say b")
        self.says(made, (2, 0, 0, []), [4, 3])
        self.assertEqual((made.box("a"), made.box("b")), (4, 3))

    def test_boxes_hold_numbers_of_the_field(self):
        made = machine(ONE_TREE, "set a 999999999999", "set b (- 0 1)", "say a")
        self.says(made, (1, 0, 0, []), [999999999999 % 7])
        self.assertEqual((made.box("a"), made.box("b")), (999999999999 % 7, 6))

    def test_each_round_begins_with_row_nought(self):
        made = machine(ONE_TREE, "say 1", "say 2", "say 3")
        self.says(made, (2, 0, 0, []), [1, 2])
        self.says(made, (2, 0, 0, []), [1, 2])
        self.says(made, (3, 0, 0, []), [1, 2, 3])

    def test_two_machines_know_nothing_of_each_other(self):
        rows = ("set a (+ a 1)", "say a", "say round")
        one, other = machine(ONE_TREE, *rows), machine(ONE_TREE, *rows)
        self.says(one, (2, 0, 0, []), [1, 0])
        self.says(one, (2, 0, 0, []), [2, 1])
        self.says(other, (2, 0, 0, []), [1, 0])
        self.assertEqual((one.box("a"), other.box("a")), (2, 1))

    def test_the_list_told_is_the_askers_own(self):
        made = machine(ONE_TREE, "say (true 0)", "say (true 1)", "say (true 0)", "say (true 1)")
        for rounds in range(2):
            due = ([1, 0, 1, 0, 0], [0, 1, 0, 1, 0])[rounds]
            told = made.say(5, 0, 0, [])
            self.assertEqual(told, due)
            told[0] = 6
            told.append(6)
            again = machine(ONE_TREE, "say (true 0)", "say (true 1)", "say (true 0)", "say (true 1)")
            for _ in range(rounds):
                again.say(1, 0, 0, [])
            self.says(again, (5, 0, 0, []), due)
        made = machine(game_of("x", ["x", "x"], 5), "say (true 0)", "say (true 1)")
        first = made.say(2, 0, 0, [])
        first.clear()
        self.says(made, (2, 0, 1, []), [0, 2])

    def test_what_is_handed_in_stays(self):
        helper = read_helper("set a (coin 1)\nsay (true a)")
        coins = [3]
        kept = copy.deepcopy(helper)
        made = Machine(TWO_TREES, helper)
        made.say(2, 0, 0, [])
        made.say(3, 4, 2, [])
        made.say(3, 4, 2, coins)
        self.assertEqual((helper, coins), (kept, [3]))
        self.assertEqual((TWO_TREES.switches, TWO_TREES.degrees), (("x", "y"), [2, 1]))

    def test_coins_changed_later(self):
        made = machine(ONE_TREE, "set a (coin 1)", "say a")
        made.say(1, 0, 0, [])
        coins = [3]
        made.say(1, 0, 0, coins)
        coins[0] = 5
        self.assertEqual(made.box("a"), 3)

    def test_a_tuple_of_coins(self):
        made = machine(ONE_TREE, "say (coin 1)", "say (true 1)")
        made.say(1, 0, 0, ())
        made.say(2, 0, 0, ())
        self.says(made, (2, 0, 0, (3,)), [3, 3])


class Rows(Case):
    def test_an_if_goes_where_the_value_is_not_nought(self):
        for number in range(15):
            made = machine(ONE_TREE, f"if {number} 3", "say 1", "end", "say 2")
            self.says(made, (1, 0, 0, []), [1 if number % 7 == 0 else 2])

    def test_an_if_goes_back(self):
        made = machine(ONE_TREE, "set a (+ a 1)", "say a", "if (< a 4) 0", "say 6")
        self.says(made, (6, 0, 0, []), [1, 2, 3, 4, 6, 0])

    def test_a_go(self):
        self.says(machine(ONE_TREE, "go 2", "say 1", "say 2"), (3, 0, 0, []), [2, 0, 0])
        self.says(machine(ONE_TREE, "say 3", "go 0"), (4, 0, 0, []), [3, 3, 3, 3])

    def test_a_row_that_goes_to_itself(self):
        self.says(machine(ONE_TREE, "go 0"), (2, 0, 0, []), [0, 0])
        self.says(machine(ONE_TREE, "say 4", "if 1 1", "say 5"), (2, 0, 0, []), [4, 0])
        self.says(machine(ONE_TREE, "say 4", "if 0 1", "say 5"), (2, 0, 0, []), [4, 5])

    def test_an_end(self):
        made = machine(ONE_TREE, "say 1", "set a 1", "end", "set b 1", "say 2")
        self.says(made, (3, 0, 0, []), [1, 0, 0])
        self.assertEqual((made.box("a"), made.box("b")), (1, 0))

    def test_behind_the_last_row(self):
        made = machine(ONE_TREE, "say 1", "set a (+ a 1)")
        self.says(made, (3, 0, 0, []), [1, 0, 0])
        self.assertEqual(made.box("a"), 1)

    def test_as_many_numbers_said_as_are_asked(self):
        made = machine(ONE_TREE, "say 1", "set a (+ a 1)", "say 2", "set b (+ b 1)", "say 3", "set c (+ c 1)")
        self.says(made, (1, 0, 0, []), [1])
        self.assertEqual([made.box(name) for name in "abc"], [0, 0, 0])
        self.says(made, (2, 0, 0, []), [1, 2])
        self.assertEqual([made.box(name) for name in "abc"], [1, 0, 0])
        self.says(made, (3, 0, 0, []), [1, 2, 3])
        self.assertEqual([made.box(name) for name in "abc"], [2, 1, 0])
        self.says(made, (4, 0, 0, []), [1, 2, 3, 0])
        self.assertEqual([made.box(name) for name in "abc"], [3, 2, 1])

    def test_sixty_rows(self):
        rows = [f"say {number}" for number in range(60)]
        self.says(machine(game_of("x", ["x"], LARGE), *rows), (60, 0, 0, []), list(range(60)))


class TwoHundredRows(Case):
    game = game_of("x", ["x"], LARGE)

    def test_each_row_done_counts_one(self):
        for rows, said in (
            (("say 1", "go 0"), 100),
            (("go 1", "say 1", "go 0"), 67),
            (("if 0 0", "say 1", "go 0"), 67),
            (("say 1", "if 1 0"), 100),
            (("set a 1", "say 1", "set b 1", "go 0"), 50),
            (("set a 1", "set b 1", "say 1", "go 0"), 50),
            (("say 1", "say 1", "say 1", "go 0"), 150),
        ):
            self.says(machine(self.game, *rows), (300, 0, 0, []), [1] * said + [0] * (300 - said))

    def test_round_and_round(self):
        made = machine(self.game, "set a (+ a 1)", "go 0")
        for rounds in range(1, 4):
            self.says(made, (2, 0, 0, []), [0, 0])
            self.assertEqual(made.box("a"), 100 * rounds)

    def test_said_in_the_last_row_done(self):
        made = machine(self.game, "set a 0", "set a (+ a 1)", "if (< a 99) 1", "say 5")
        for _ in range(3):
            self.says(made, (1, 0, 0, []), [5])

    def test_not_said_in_the_row_behind(self):
        made = machine(self.game, "set a 0", "set b 1", "set a (+ a 1)", "if (< a 99) 2", "say 5")
        for _ in range(3):
            self.says(made, (1, 0, 0, []), [0])
        self.assertEqual(made.box("a"), 99)

    def test_the_last_row_done_is_done(self):
        made = machine(self.game, "set a 0", "set a (+ a 1)", "if (< a 99) 1", "set b 1", "set c 1")
        self.says(made, (1, 0, 0, []), [0])
        self.assertEqual((made.box("b"), made.box("c")), (1, 0))

    def test_some_said_ahead(self):
        made = machine(self.game, "say 7", "set a (+ a 1)", "go 1")
        self.says(made, (3, 0, 0, []), [7, 0, 0])
        self.assertEqual(made.box("a"), 100)


class Terms(Case):
    def test_numbers_by_their_rests(self):
        for number in (0, 1, 6, 7, 8, 13, 14, 999999999999):
            for rounds in (0, 1):
                self.worth(ONE_TREE, number, number % 7, rounds)
        self.worth(game_of("", ["yes"], LARGE), LARGE + 4, 4)

    def test_boxes(self):
        made = machine(ONE_TREE, "set a 5", "say a", "say b", "set b a", "say b")
        self.says(made, (3, 0, 0, []), [5, 0, 5])

    def test_round_by_its_rest(self):
        made = machine(game_of("a b c d e f", ["a"], 3), "say round")
        for number in (0, 1, 2, 0, 1, 2, 0):
            self.says(made, (1, 0, 0, []), [number])

    def test_asked_by_its_rest(self):
        for many in (1, 2, 6, 7, 8, 15):
            for rounds in (0, 1):
                self.worth(ONE_TREE, "asked", many % 7, rounds, many=many)
        self.worth(game_of("", ["yes", "no", "yes", "no"], 5), "asked", 4, many=4)
        self.worth(game_of("x", ["x", "x", "x"], 3), "asked", 0, many=3)

    def test_due(self):
        self.worth(ONE_TREE, "due", 0)
        self.worth(TWO_TREES, "due", 0)
        for due in range(7):
            self.worth(ONE_TREE, "due", due, 1, due)
            self.worth(TWO_TREES, "due", due, 2, due, 3, (5,))

    def test_coins_with_one_tree(self):
        game = game_of("a b c d", ["a"], 7)
        for e in range(7):
            self.worth(game, f"(coin {e})", 0)
            self.worth(game, f"(coin {e})", 0, 1)
            self.worth(game, f"(coin {e})", {1: 5}.get(e, 0), 2, 0, 0, (5,))
            self.worth(game, f"(coin {e})", {1: 5, 2: 6, 3: 2}.get(e, 0), 4, 0, 0, (5, 6, 2))
        self.worth(game, "(coin 8)", 5, 2, 0, 0, (5,))
        self.worth(game, "(coin 7)", 0, 2, 0, 0, (5,))

    def test_coins_with_two_trees(self):
        game = game_of("a b c", ["a", "b"], 7)
        for e in range(7):
            self.worth(game, f"(coin {e})", 0)
            self.worth(game, f"(coin {e})", {1: 4}.get(e, 0), 1, 0, 4)
            self.worth(game, f"(coin {e})", {1: 4, 2: 5}.get(e, 0), 2, 0, 4, (5,))
            self.worth(game, f"(coin {e})", {1: 4, 2: 5, 3: 6}.get(e, 0), 3, 0, 4, (5, 6))

    def test_a_coin_by_a_coin(self):
        self.worth(game_of("a b c", ["a"], 7), "(coin (coin 1))", 5, 3, 0, 0, (2, 5))
        self.worth(game_of("a b c", ["a"], 7), "(coin (- 0 5))", 5, 3, 0, 0, (2, 5))

    def test_true_in_round_nought(self):
        game = game_of("a b c", ["a", "(a or b)", "yes", "no"], 7)
        for e, number in enumerate((4, 6, 1, 0, 0, 0, 0, 4)):
            self.worth(game, f"(true {e})", number)
        game = game_of("a b c d e f", ["yes", "a", "(a or f)"], 3)
        for e, number in enumerate((1, 2, 0)):
            self.worth(game, f"(true {e})", number)
        self.worth(ONE_TREE, "(true 0)", 1)
        self.worth(ONE_TREE, "(true 1)", 0)
        self.worth(ONE_TREE, "(true 6)", 0)

    def test_true_without_switches(self):
        for text, count in (("yes", 1), ("no", 0)):
            self.worth(game_of("", [text], 5), "(true 0)", count)
            self.worth(game_of("", [text], 5), "(true 1)", 0)
        self.worth(game_of("", ["no", "yes"], 5), "(true 1)", 1)
        self.worth(game_of("", ["no", "yes"], 5), "(true 2)", 0)

    def test_true_in_later_rounds(self):
        games = (
            game_of("x", ["(x and not x)"], 5),
            game_of("x y", ["(x or (y and x))"], 5),
            game_of("x y z", ["((x and y) or (y odd z))", "(z same (x and z))"], 5),
            game_of("a b c d", ["((a or d) and (b same d))", "(c odd (d and c))", "b", "(a and (b and c))"], 7),
            game_of("a b", ["b", "yes"], 3),
        )
        for game in games:
            mixes = (0, 1, game.field - 1) if len(game.trees) > 1 else (0,)
            for k in range(1, len(game.switches) + 1):
                coins = tuple((3 * place + 2) % game.field for place in range(k - 1))
                for s, e in itertools.product(mixes, range(game.field)):
                    self.worth(game, f"(true {e})", plain_sum(game, s, coins + (e,)), k, 0, s, coins)

    def test_true_at_places_behind_the_row_of_the_largest_field(self):
        game = game_of("x y", ["(x or (y and x))", "not y"], LARGE)
        for e in (0, 1, 2, 3, 1000, LARGE - 1):
            self.worth(game, f"(true {e})", plain_sum(game, 5, (e,)), 1, 0, 5)
            self.worth(game, f"(true {e})", plain_sum(game, 5, (99, e)), 2, 0, 5, (99,))
        self.worth(game, "(true (- 0 1))", plain_sum(game, 5, (LARGE - 1,)), 1, 0, 5)

    def test_true_is_asked_anew_in_each_round(self):
        made = machine(TWO_TREES, "say (true 1)", "say (true 0)", "say (true 3)")
        self.says(made, (3, 0, 0, []), [2, 2, 0])
        self.says(made, (3, 0, 4, []), [plain_sum(TWO_TREES, 4, (e,)) for e in (1, 0, 3)])
        self.says(made, (3, 0, 4, [5]), [plain_sum(TWO_TREES, 4, (5, e)) for e in (1, 0, 3)])

    def test_each_op(self):
        game = game_of("", ["yes"], 5)
        for a, b in itertools.product(range(5), repeat=2):
            self.worth(game, f"(+ {a} {b})", (a + b) % 5)
            self.worth(game, f"(- {a} {b})", (a - b) % 5)
            self.worth(game, f"(* {a} {b})", a * b % 5)
            self.worth(game, f"(/ {a} {b})", [number for number in range(5) if number * b % 5 == a][0] if b else 0)
            self.worth(game, f"(= {a} {b})", 1 if a == b else 0)
            self.worth(game, f"(< {a} {b})", 1 if a < b else 0)

    def test_ops_of_numbers_above_the_field(self):
        self.worth(ONE_TREE, "(= 8 1)", 1)
        self.worth(ONE_TREE, "(< 8 2)", 1)
        self.worth(ONE_TREE, "(< 6 7)", 0)
        self.worth(ONE_TREE, "(/ 8 7)", 0)
        self.worth(ONE_TREE, "(/ 1 9)", 4)
        self.worth(ONE_TREE, "(< (- 0 1) 6)", 0)
        self.worth(ONE_TREE, "(< 5 (- 0 1))", 1)

    def test_ops_of_the_largest_field(self):
        game = game_of("", ["yes"], LARGE)
        self.worth(game, "(+ 999982 999982)", LARGE - 2)
        self.worth(game, "(* 999982 999982)", 1)
        self.worth(game, "(/ 1 2)", (LARGE + 1) // 2)
        self.worth(game, "(- 0 1)", LARGE - 1)

    def test_terms_within_one_another(self):
        self.worth(ONE_TREE, "(/ (+ due (coin 1)) (- (* 2 3) (= round 2)))", 4, 2, 3, 0, (3,))
        self.worth(ONE_TREE, "(true (+ (true 0) (true 1)))", 1, 1)
        self.worth(ONE_TREE, "(coin (coin (coin (coin (coin (coin (coin 1)))))))", 1, 2, 0, 0, (1,))


class Twin(Case):
    rows = ("set a (+ a 1)", "say a", "say round", "set b (* b 2)", "set b (+ b 1)", "say b")

    def started(self):
        made = machine(ONE_TREE, *self.rows)
        self.says(made, (4, 0, 0, []), [1, 0, 1, 0])
        return made

    def test_it_is_where_the_other_one_is(self):
        made = self.started()
        other = made.twin()
        self.assertIsNot(other, made)
        self.assertIs(other.__class__, Machine)
        self.assertEqual((other.box("a"), other.box("b"), other.box("c")), (1, 1, 0))

    def test_either_one_goes_on_by_itself_in_either_order(self):
        for first in (0, 1):
            made = self.started()
            both = (made, made.twin())
            self.says(both[first], (4, 0, 0, []), [2, 1, 3, 0])
            self.says(both[first], (4, 0, 0, []), [3, 2, 0, 0])
            self.assertEqual(both[1 - first].box("a"), 1)
            self.assertEqual(both[1 - first].box("b"), 1)
            self.says(both[1 - first], (4, 0, 0, []), [2, 1, 3, 0])
            self.assertEqual((both[first].box("a"), both[first].box("b")), (3, 0))

    def test_in_turn(self):
        made = self.started()
        other = made.twin()
        for numbers in ([2, 1, 3], [3, 2, 0], [4, 3, 1]):
            self.says(made, (3, 0, 0, []), numbers)
            self.says(other, (3, 0, 0, []), numbers)

    def test_a_twin_ahead_of_round_nought(self):
        made = machine(ONE_TREE, *self.rows)
        other = made.twin()
        self.says(made, (3, 0, 0, []), [1, 0, 1])
        self.says(other, (3, 0, 0, []), [1, 0, 1])

    def test_a_twins_twin(self):
        made = self.started()
        other = made.twin()
        self.says(other, (3, 0, 0, []), [2, 1, 3])
        third = other.twin()
        self.says(third, (3, 0, 0, []), [3, 2, 0])
        self.says(other, (3, 0, 0, []), [3, 2, 0])
        self.says(made, (3, 0, 0, []), [2, 1, 3])

    def test_twins_by_other_coins(self):
        made = machine(ONE_TREE, "say (true 1)", "set a (+ a (coin 1))", "say a")
        made.say(1, 0, 0, [])
        self.says(made, (2, 0, 0, []), [1, 0])
        others = [made.twin() for _ in range(7)]
        for coin, other in enumerate(others):
            self.says(other, (2, 0, 0, [coin]), [coin, coin])
        self.says(made, (2, 0, 0, [5]), [5, 5])


if __name__ == "__main__":
    unittest.main()
