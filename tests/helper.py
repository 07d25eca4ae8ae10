"""What several test files use."""

import itertools

from asktally.doubter import Doubter
from asktally.errors import AskError
from asktally.games import Game
from asktally.helptexts import read_helper
from asktally.machine import Machine
from asktally.reader import read_tree

JOINING = ("and", "or", "odd", "same")

FORMS = (
    (("is", "x"), "x"),
    (("yes",), "yes"),
    (("no",), "no"),
    (("not", ("is", "x")), "not x"),
    (("and", ("is", "x"), ("is", "y")), "(x and y)"),
    (("or", ("is", "x"), ("is", "y")), "(x or y)"),
    (("odd", ("is", "x"), ("is", "y")), "(x odd y)"),
    (("same", ("is", "x"), ("is", "y")), "(x same y)"),
)

HONEST = "set i 0\nsay (true i)\nset i (+ i 1)\ngo 1"

# Of 0 to 4 switches, of 1 to 4 trees, switches of degree 0, 1 and more; the field small enough for each row of coins.
SMALL_GAMES = (
    ("", ["yes"], 3),
    ("", ["no", "not no"], 5),
    ("", ["yes", "no", "(yes and yes)", "no"], 5),
    ("x", ["x"], 7),
    ("x", ["(x and (x and (x odd x)))"], 5),
    ("x", ["not x", "(x or x)", "yes"], 5),
    ("a x", ["x"], 5),
    ("x a", ["x", "not x"], 3),
    ("x y", ["(x or (y and x))"], 5),
    ("x y", ["(x odd y)", "x", "(x and (y and x))"], 3),
    ("x y z", ["((x and y) or (z and y))"], 3),
    ("x y z", ["(x same (y or z))", "(x and y)"], 3),
    ("x y z w", ["((x or y) and (z or w))"], 3),
)

# Helpers of many kinds; some say more than is asked, some less, one nothing, one never comes to an end by itself.
HELPERS = (
    "",
    "end",
    HONEST,
    "say 1\ngo 0",
    "say 1",
    "say due",
    "say due\nsay due\nsay due",
    "go 0",
    "say (true 0)\nsay (- due (true 0))\nset i (+ 1 1)\nsay (true i)\nset i (+ i 1)\ngo 3",
    "set i (+ i 1)\nsay (* i (coin round))\nsay (+ (coin 1) (coin 2))\ngo 0",
    "say (/ due asked)\ngo 0",
    "if round 3\nsay (+ (true 0) 1)\ngo 1\nsay (/ due 2)\nsay (/ due 2)",
)


def refusal(function, *arguments):
    """The AskError with which the call is refused, or None where it is answered."""
    try:
        function(*arguments)
    except AskError as error:
        return error
    return None


def trees_over(parts):
    """Each form made of the given (tree, text) pairs, as such pairs."""
    made = [(("not", a), f"not {s}") for a, s in parts]
    for word in JOINING:
        for a, s in parts:
            made.extend([((word, a, b), f"({s} {word} {t})") for b, t in parts])
    return made


def nested_nots(within):
    """A tree of so many trees within one another, and its text."""
    tree, text = ("is", "x"), "x"
    for _ in range(within - 1):
        tree, text = ("not", tree), f"not {text}"
    return tree, text


def nested_left(within):
    """As nested_nots, by brackets on the left side."""
    tree, text = ("is", "x"), "x"
    for _ in range(within - 1):
        tree, text = ("or", tree, ("no",)), f"({text} or no)"
    return tree, text


def nested_right(within):
    """As nested_nots, by brackets on the right side."""
    tree, text = ("is", "x"), "x"
    for _ in range(within - 1):
        tree, text = ("odd", ("yes",), tree), f"(yes odd {text})"
    return tree, text


def broad(leaves):
    """A tree with so many leaves, as flat as may be (2 * leaves - 1 trees), and its text."""
    if leaves == 1:
        return ("is", "x"), "x"
    a, s = broad(leaves // 2)
    b, t = broad(leaves - leaves // 2)
    return ("and", a, b), f"({s} and {t})"


def plain_worth(tree, values):
    """The worth of a tree by the sums of point 11, in whole numbers without rests; values by names."""
    word = tree[0]
    if word == "is":
        return values[tree[1]]
    if word in ("yes", "no"):
        return int(word == "yes")
    parts = [plain_worth(part, values) for part in tree[1:]]
    if word == "not":
        return 1 - parts[0]
    a, b = parts
    return {"and": a * b, "or": a + b - a * b, "odd": a + b - 2 * a * b, "same": 1 - a - b + 2 * a * b}[word]


def plain_mix(game, point, s):
    """The mix of the trees' worths at a point, in whole numbers without rests."""
    values = dict(zip(game.switches, point))
    return sum(plain_worth(tree, values) * s ** place for place, tree in enumerate(game.trees))


def plain_sum(game, s, ahead):
    """What is left of a game behind some numbers: its mix at these, summed over all settings of the other switches."""
    others = itertools.product((0, 1), repeat=len(game.switches) - len(ahead))
    return sum(plain_mix(game, tuple(ahead) + setting, s) for setting in others) % game.field


def game_of(switches, texts, field):
    """A game, its switches by a text and its trees by their texts."""
    return Game(tuple(switches.split()), tuple(read_tree(text) for text in texts), field)


def all_coins(game):
    """Each row of coins of a whole talk, as tuples in order."""
    return list(itertools.product(range(game.field), repeat=game.coins()))


def by_turns(game, text, coins):
    """The rows of a talk with a helper, by its text, and the doubter behind it: a machine and a doubter in turn."""
    machine, doubter = Machine(game, read_helper(text)), Doubter(game)
    left, s, tossed = list(coins), 0, []
    values = machine.say(len(game.trees), 0, 0, [])
    doubter.hear(values)
    rows = [("claims", tuple(values))]
    if len(game.trees) > 1:
        s = left.pop(0)
        doubter.toss(s)
        rows.append(("coin", s))
    for degree in game.degrees:
        values = machine.say(degree + 1, doubter.due(), s, list(tossed))
        doubter.hear(values)
        rows.append(("say", tuple(values)))
        if doubter.waits() != ("coin",):
            break
        tossed.append(left.pop(0))
        doubter.toss(tossed[-1])
        rows.append(("coin", tossed[-1]))
    return tuple(rows), doubter


def off_in_round(number):
    """The text of a helper that says what is true, but in one round its first number is one more."""
    rows = ["set i 0", f"if (= round {number}) 5", "say (true i)", "set i (+ i 1)", "go 2", "say (+ (true 0) 1)"]
    return "\n".join(rows + ["set i 1", "go 2"])


def liar(claims):
    """The text of a helper that claims these, then says the true row but for the number at 1: that one makes up due."""
    rows = ["if told 3", "set told 1", "go 11", "if (= asked 1) 10", "say (true 0)", "say (- due (true 0))", "set i 2"]
    rows += ["say (true i)", "set i (+ i 1)", "go 7", "say (/ due 2)"]
    return "\n".join(rows + [f"say {claim}" for claim in claims])
