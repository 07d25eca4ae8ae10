"""Helpers ready made, and the best a liar can."""

from asktally.helptexts import read_helper
from asktally.powers import power, rows_of_coins
from asktally.truth import counts_of

HONEST_ROWS = "set i 0\nsay (true i)\nset i (+ i 1)\ngo 1"

# Round 0 is known by a box, since the number of a later round may leave the rest 0. The claims stand behind these rows.
LIAR_ROWS = """if (= lied 0) 9
if (= asked 1) 8
say (true 0)
say (- due (true 0))
set i 2
say (true i)
set i (+ i 1)
go 5
say (/ due 2)
set lied 1"""


def honest():
    return read_helper(HONEST_ROWS)


def idle():
    return ()


def best_liar(claims):
    return read_helper(LIAR_ROWS) + tuple([("say", ("num", claim)) for claim in claims])


# By how much, in the field, each claim is above its tree's count.
def differences(game, claims):
    return [(claim - count) % game.field for claim, count in zip(claims, counts_of(game))]


def are_wrong(game, claims):
    return any([difference != 0 for difference in differences(game, claims)])


# The mix of the claims is that of the counts just where the mix of their differences is 0.
def blind_spots(game, claims):
    above = differences(game, claims)
    return [s for s in range(game.field) if game.mix(above, s) == 0]


def let_by_at_most(game, claims):
    if not are_wrong(game, claims):
        return rows_of_coins(game)
    rows = power(game.field, len(game.switches))
    by_chance = rows - caught_rows(game)
    if len(game.trees) == 1:
        return by_chance
    blind = len(blind_spots(game, claims))
    return blind * rows + (game.field - blind) * by_chance


# A lie goes on through a round by each coin but as many as the switch's degree.
def caught_rows(game):
    told = 1
    for degree in game.degrees:
        told = told * (game.field - degree)
    return told
