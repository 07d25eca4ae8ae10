import copy
import itertools
import unittest

from asktally.settings import all_settings, holds_at
from asktally.worth import worth_of
from helper import FORMS, broad, nested_left, nested_nots, nested_right, plain_worth, trees_over

X, Y = ("is", "x"), ("is", "y")
LARGE = 999983

# What each form of FORMS is worth where x is 2 and y is 5, in whole numbers, by hand.
AT_TWO_FIVE = {
    "x": 2,
    "yes": 1,
    "no": 0,
    "not x": -1,
    "(x and y)": 10,
    "(x or y)": -3,
    "(x odd y)": -13,
    "(x same y)": 14,
}


class WorthOf(unittest.TestCase):
    def worth(self, tree, switches, point, p, number):
        for handed in (list(switches), tuple(switches)):
            told = worth_of(tree, handed, point, p)
            self.assertEqual(told, number, (tree, point, p))
            self.assertIs(told.__class__, int)
            self.assertTrue(0 <= told < p)

    def test_each_form_by_hand(self):
        for tree, text in FORMS:
            for p in (7, 11, 13, LARGE):
                self.worth(tree, ("x", "y"), (2, 5), p, AT_TWO_FIVE[text] % p)

    def test_known_numbers_of_seven(self):
        for text, number in (("not x", 6), ("(x and y)", 3), ("(x or y)", 4), ("(x odd y)", 1), ("(x same y)", 0)):
            tree = [form for form, written in FORMS if written == text][0]
            self.worth(tree, ("x", "y"), (2, 5), 7, number)

    def test_each_form_at_each_point_of_small_fields(self):
        for p in (3, 5, 7):
            for tree, _ in FORMS:
                for x, y in itertools.product(range(p), repeat=2):
                    self.worth(tree, ("x", "y"), (x, y), p, plain_worth(tree, {"x": x, "y": y}) % p)

    def test_each_form_at_points_of_the_largest_field(self):
        for tree, _ in FORMS:
            for x, y in itertools.product((0, 1, 2, 499991, LARGE - 2, LARGE - 1), repeat=2):
                self.worth(tree, ("x", "y"), (x, y), LARGE, plain_worth(tree, {"x": x, "y": y}) % LARGE)

    def test_forms_within_forms(self):
        for tree, _ in trees_over(FORMS):
            for p, point in ((3, (2, 1)), (5, (3, 4)), (7, (2, 6)), (LARGE, (LARGE - 1, 12345))):
                self.worth(tree, ("x", "y"), point, p, plain_worth(tree, dict(zip("xy", point))) % p)

    def test_a_switch_twice_in_a_tree_is_no_truth(self):
        self.worth(("and", X, X), ("x",), (3,), 7, 2)
        self.worth(("and", X, ("not", X)), ("x",), (3,), 7, 1)
        self.worth(("or", X, X), ("x",), (3,), 7, 4)
        self.worth(("odd", X, X), ("x",), (3,), 7, 2)
        self.worth(("same", X, X), ("x",), (3,), 7, 6)

    def test_at_settings_it_tells_where_a_tree_holds(self):
        trees = [tree for tree, _ in FORMS] + [tree for tree, _ in trees_over(FORMS)]
        trees += [broad(15)[0], nested_nots(10)[0], nested_left(10)[0], nested_right(10)[0]]
        for tree in trees:
            for setting in all_settings(2):
                due = 1 if holds_at(tree, ("x", "y"), setting) else 0
                for p in (3, 5, LARGE):
                    self.worth(tree, ("x", "y"), setting, p, due)

    def test_where_each_switch_stands_once_it_is_the_weighed_sum_of_settings(self):
        tree = ("same", ("or", ("is", "a"), ("not", ("is", "b"))), ("odd", ("is", "c"), ("and", ("is", "d"), ("yes",))))
        switches = ("a", "b", "c", "d")
        for p, point in ((5, (2, 3, 4, 0)), (7, (6, 2, 5, 3)), (LARGE, (2, 3, LARGE - 4, 77777))):
            total = 0
            for setting in all_settings(4):
                weight = int(holds_at(tree, switches, setting))
                for number, way in zip(point, setting):
                    weight = weight * (number if way == 1 else 1 - number)
                total += weight
            self.worth(tree, switches, point, p, total % p)

    def test_switches_in_another_order_and_more_of_them(self):
        tree = ("and", X, ("not", Y))
        self.worth(tree, ("x", "y"), (3, 5), 11, -12 % 11)
        self.worth(tree, ("y", "x"), (5, 3), 11, -12 % 11)
        self.worth(tree, ("a", "y", "b", "x", "c", "d"), (9, 5, 8, 3, 7, 6), 11, -12 % 11)

    def test_without_switches(self):
        for tree, number in ((("yes",), 1), (("no",), 0), (("not", ("no",)), 1), (("odd", ("yes",), ("yes",)), 0)):
            self.worth(tree, (), (), 3, number)

    def test_a_hundred_trees_and_twelve_within_one_another(self):
        tree, _ = broad(50)
        self.worth(tree, ("x",), (2,), LARGE, 2 ** 50 % LARGE)
        self.worth(("not", tree), ("x",), (2,), LARGE, (1 - 2 ** 50) % LARGE)
        for made in (nested_nots, nested_left, nested_right):
            deep, _ = made(12)
            for p, number in ((3, 2), (7, 5), (LARGE, LARGE - 1)):
                self.worth(deep, ("x",), (number,), p, plain_worth(deep, {"x": number}) % p)

    def test_one_field_another_one_and_the_first_again(self):
        tree = ("odd", ("and", X, Y), ("or", Y, X))
        told = [worth_of(tree, ("x", "y"), (2, 5), p) for p in (7, 11, 7, LARGE, 11)]
        whole = plain_worth(tree, {"x": 2, "y": 5})
        self.assertEqual(told, [whole % p for p in (7, 11, 7, LARGE, 11)])
        self.assertNotEqual(told[0], told[1])

    def test_one_point_another_one_and_the_first_again(self):
        tree = ("and", X, Y)
        self.assertEqual([worth_of(tree, ("x", "y"), point, 7) for point in ((2, 2), (3, 2), (2, 2))], [4, 6, 4])
        self.assertEqual([worth_of(X, names, (2, 5), 7) for names in (("x", "y"), ("y", "x"), ("x", "y"))], [2, 5, 2])

    def test_what_is_handed_in_stays(self):
        tree, switches, point = ("odd", X, ("not", Y)), ["x", "y"], (2, 5)
        kept = copy.deepcopy((tree, switches, point))
        worth_of(tree, switches, point, 7)
        self.assertEqual((tree, switches, point), kept)


if __name__ == "__main__":
    unittest.main()
