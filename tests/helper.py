"""What several test files use."""

import itertools

from asktally.errors import AskError
from asktally.games import Game
from asktally.reader import read_tree

JOINING = ("and", "or", "odd", "same")

FORMS = (
    (("is", "x"), "x"),
    (("yes",), "yes"),
    (("no",), "no"),
    (("not", ("is", "x")), "not x"),
    (("and", ("is", "x"), ("is", "y")), "(x and y)"),
    (("or", ("is", "x"), ("is", "y")), "(x or y)"),
    (("odd", ("is", "x"), ("is", "y")), "(x odd y)"),
    (("same", ("is", "x"), ("is", "y")), "(x same y)"),
)


def refusal(function, *arguments):
    """The AskError with which the call is refused, or None where it is answered."""
    try:
        function(*arguments)
    except AskError as error:
        return error
    return None


def trees_over(parts):
    """Each form made of the given (tree, text) pairs, as such pairs."""
    made = [(("not", a), f"not {s}") for a, s in parts]
    for word in JOINING:
        for a, s in parts:
            made.extend([((word, a, b), f"({s} {word} {t})") for b, t in parts])
    return made


def nested_nots(within):
    """A tree of so many trees within one another, and its text."""
    tree, text = ("is", "x"), "x"
    for _ in range(within - 1):
        tree, text = ("not", tree), f"not {text}"
    return tree, text


def nested_left(within):
    """As nested_nots, by brackets on the left side."""
    tree, text = ("is", "x"), "x"
    for _ in range(within - 1):
        tree, text = ("or", tree, ("no",)), f"({text} or no)"
    return tree, text


def nested_right(within):
    """As nested_nots, by brackets on the right side."""
    tree, text = ("is", "x"), "x"
    for _ in range(within - 1):
        tree, text = ("odd", ("yes",), tree), f"(yes odd {text})"
    return tree, text


def broad(leaves):
    """A tree with so many leaves, as flat as may be (2 * leaves - 1 trees), and its text."""
    if leaves == 1:
        return ("is", "x"), "x"
    a, s = broad(leaves // 2)
    b, t = broad(leaves - leaves // 2)
    return ("and", a, b), f"({s} and {t})"


def plain_worth(tree, values):
    """The worth of a tree by the sums of point 11, in whole numbers without rests; values by names."""
    word = tree[0]
    if word == "is":
        return values[tree[1]]
    if word in ("yes", "no"):
        return int(word == "yes")
    parts = [plain_worth(part, values) for part in tree[1:]]
    if word == "not":
        return 1 - parts[0]
    a, b = parts
    return {"and": a * b, "or": a + b - a * b, "odd": a + b - 2 * a * b, "same": 1 - a - b + 2 * a * b}[word]


def plain_mix(game, point, s):
    """The mix of the trees' worths at a point, in whole numbers without rests."""
    values = dict(zip(game.switches, point))
    return sum(plain_worth(tree, values) * s ** place for place, tree in enumerate(game.trees))


def plain_sum(game, s, ahead):
    """What is left of a game behind some numbers: its mix at these, summed over all settings of the other switches."""
    others = itertools.product((0, 1), repeat=len(game.switches) - len(ahead))
    return sum(plain_mix(game, tuple(ahead) + setting, s) for setting in others) % game.field


def game_of(switches, texts, field):
    """A game, its switches by a text and its trees by their texts."""
    return Game(tuple(switches.split()), tuple(read_tree(text) for text in texts), field)
