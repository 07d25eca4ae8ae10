import copy
import itertools
import unittest

from asktally.settings import all_settings, count_of, holds_at, names_in, size_of
from helper import FORMS, JOINING, broad, nested_left, nested_nots, nested_right, trees_over

X, Y = ("is", "x"), ("is", "y")
NAMES = ("a", "b", "c", "d", "e", "f")

# Whether each form of FORMS holds, at (0, 0), (0, 1), (1, 0), (1, 1) of x and y.
HOLDING = {
    "x": (False, False, True, True),
    "yes": (True, True, True, True),
    "no": (False, False, False, False),
    "not x": (True, True, False, False),
    "(x and y)": (False, False, False, True),
    "(x or y)": (False, True, True, True),
    "(x odd y)": (False, True, True, False),
    "(x same y)": (True, False, False, True),
}
FOUR = ((0, 0), (0, 1), (1, 0), (1, 1))


class AllSettings(unittest.TestCase):
    def test_few_switches(self):
        self.assertEqual(all_settings(0), [()])
        self.assertEqual(all_settings(1), [(0,), (1,)])
        self.assertEqual(all_settings(2), [(0, 0), (0, 1), (1, 0), (1, 1)])

    def test_order_of_numbers_written_by_twos(self):
        for n in range(1, 7):
            told = all_settings(n)
            self.assertEqual(len(told), 2 ** n)
            for number, setting in enumerate(told):
                self.assertEqual("".join(str(way) for way in setting), format(number, f"0{n}b"))

    def test_kinds(self):
        for n in range(7):
            told = all_settings(n)
            self.assertIs(told.__class__, list)
            for setting in told:
                self.assertIs(setting.__class__, tuple)
                self.assertTrue(all(way.__class__ is int for way in setting))

    def test_a_list_told_is_the_askers_own(self):
        for n in (0, 1, 3):
            first = all_settings(n)
            kept = list(first)
            first.reverse()
            first.append("more")
            self.assertEqual(all_settings(n), kept)
            self.assertIsNot(all_settings(n), all_settings(n))


class HoldsAt(unittest.TestCase):
    def test_each_form_at_each_setting(self):
        for tree, text in FORMS:
            for setting, holding in zip(FOUR, HOLDING[text]):
                self.assertIs(holds_at(tree, ("x", "y"), setting), holding)
                self.assertIs(holds_at(tree, ["x", "y"], setting), holding)

    def test_switches_in_another_order(self):
        for tree, text in FORMS:
            for setting, holding in zip(FOUR, HOLDING[text]):
                self.assertIs(holds_at(tree, ("y", "x"), setting[::-1]), holding)
                self.assertIs(holds_at(tree, ("z", "y", "x"), (1,) + setting[::-1]), holding)

    def test_sides_that_are_trees(self):
        for tree, _ in trees_over(FORMS):
            for setting in FOUR:
                inner = [HOLDING[text][FOUR.index(setting)] for part in tree[1:] for form, text in FORMS if form == part]
                if tree[0] == "not":
                    due = not inner[0]
                else:
                    due = {
                        "and": inner[0] and inner[-1],
                        "or": inner[0] or inner[-1],
                        "odd": inner.count(True) == 1,
                        "same": inner.count(True) != 1,
                    }[tree[0]]
                self.assertIs(holds_at(tree, ("x", "y"), setting), due)

    def test_each_switch_by_itself(self):
        for setting in itertools.product((0, 1), repeat=6):
            for name, way in zip(NAMES, setting):
                self.assertIs(holds_at(("is", name), NAMES, setting), way == 1)

    def test_without_switches(self):
        self.assertIs(holds_at(("yes",), (), ()), True)
        self.assertIs(holds_at(("no",), [], ()), False)
        self.assertIs(holds_at(("odd", ("yes",), ("no",)), (), ()), True)

    def test_large_trees(self):
        tree = ("not", broad(50)[0])
        self.assertEqual(size_of(tree), 100)
        self.assertIs(holds_at(tree, ("x",), (1,)), False)
        self.assertIs(holds_at(tree, ("x",), (0,)), True)

    def test_deep_trees(self):
        for setting in ((0,), (1,)):
            self.assertIs(holds_at(nested_nots(12)[0], ("x",), setting), setting == (0,))
            self.assertIs(holds_at(nested_left(12)[0], ("x",), setting), setting == (1,))
            self.assertIs(holds_at(nested_right(12)[0], ("x",), setting), setting == (0,))

    def test_names_that_look_like_words(self):
        names = ("is", "holds", "field", "set")
        for place, name in enumerate(names):
            setting = tuple(1 if k == place else 0 for k in range(4))
            self.assertIs(holds_at(("is", name), names, setting), True)
            self.assertIs(holds_at(("not", ("is", name)), names, setting), False)

    def test_nothing_handed_in_is_changed(self):
        switches = ["x", "y"]
        holds_at(("and", X, ("not", Y)), switches, (1, 0))
        self.assertEqual(switches, ["x", "y"])


class CountOf(unittest.TestCase):
    def told(self, tree, switches, count):
        for handed in (list(switches), tuple(switches)):
            told = count_of(tree, handed)
            self.assertEqual(told, count)
            self.assertIs(told.__class__, int)

    def test_without_switches(self):
        self.told(("yes",), (), 1)
        self.told(("no",), (), 0)
        self.told(("not", ("yes",)), (), 0)

    def test_each_form(self):
        for tree, text in FORMS:
            self.told(tree, ("x", "y"), HOLDING[text].count(True))

    def test_switches_that_stand_in_no_tree(self):
        self.told(X, ("x",), 1)
        self.told(X, ("x", "y"), 2)
        self.told(X, ("z", "x", "y"), 4)
        self.told(("yes",), ("x",), 2)
        self.told(("no",), ("x",), 0)

    def test_six_switches(self):
        every, some, odd = ("is", "a"), ("is", "a"), ("is", "a")
        for name in NAMES[1:]:
            every = ("and", every, ("is", name))
            some = ("or", some, ("is", name))
            odd = ("odd", odd, ("is", name))
        self.told(every, NAMES, 1)
        self.told(some, NAMES, 63)
        self.told(odd, NAMES, 32)
        self.told(("yes",), NAMES, 64)
        self.told(("no",), NAMES, 0)

    def test_as_many_as_hold(self):
        for tree, _ in trees_over(FORMS):
            for switches in (("x", "y"), ("y", "z", "x")):
                settings = itertools.product((0, 1), repeat=len(switches))
                self.told(tree, switches, sum(holds_at(tree, switches, setting) for setting in settings))

    def test_nothing_handed_in_is_changed(self):
        switches = ["x", "y"]
        self.assertEqual(count_of(X, switches), count_of(X, switches))
        self.assertEqual(switches, ["x", "y"])


class SizeAndNames(unittest.TestCase):
    def told(self, tree, size, names):
        self.assertEqual(size_of(tree), size)
        self.assertIs(size_of(tree).__class__, int)
        self.assertEqual(names_in(tree), names)
        self.assertIs(names_in(tree).__class__, list)

    def test_leaves(self):
        self.told(X, 1, ["x"])
        self.told(("is", "abcdef"), 1, ["abcdef"])
        self.told(("yes",), 1, [])
        self.told(("no",), 1, [])

    def test_not(self):
        self.told(("not", X), 2, ["x"])
        self.told(("not", ("not", ("yes",))), 3, [])

    def test_each_joining_word(self):
        for word in JOINING:
            self.told((word, X, Y), 3, ["x", "y"])
            self.told((word, Y, X), 3, ["y", "x"])
            self.told((word, ("yes",), X), 3, ["x"])
            self.told((word, ("not", X), (word, Y, X)), 6, ["x", "y", "x"])

    def test_the_same_name_several_times(self):
        self.told(("and", X, X), 3, ["x", "x"])
        self.told(broad(15)[0], 29, ["x"] * 15)
        self.told(broad(50)[0], 99, ["x"] * 50)

    def test_left_to_right(self):
        tree = ("or", ("and", ("is", "c"), ("not", ("is", "a"))), ("odd", ("is", "b"), ("same", ("is", "a"), ("is", "d"))))
        self.told(tree, 10, ["c", "a", "b", "a", "d"])

    def test_deep_trees(self):
        self.told(nested_nots(12)[0], 12, ["x"])
        self.told(nested_left(12)[0], 23, ["x"])
        self.told(nested_right(12)[0], 23, ["x"])

    def test_names_that_look_like_words(self):
        self.told(("is", "is"), 1, ["is"])
        self.told(("not", ("is", "holds")), 2, ["holds"])

    def test_the_list_told_is_the_askers_own(self):
        for tree in (X, ("yes",), ("not", X), ("and", X, Y)):
            kept = copy.copy(names_in(tree))
            first = names_in(tree)
            first.append("z")
            first.reverse()
            self.assertEqual(names_in(tree), kept)


if __name__ == "__main__":
    unittest.main()
