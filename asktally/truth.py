"""What is true of a game: its counts and its true rows."""

from asktally.settings import all_settings, count_of


def counts_of(game):
    return [count_of(tree, game.switches) for tree in game.trees]


def true_row(game, s, coins):
    ahead = tuple(coins)
    switch = len(ahead)
    behind = all_settings(len(game.switches) - switch - 1)
    row = []
    for x in range(game.degrees[switch] + 1):
        worths = [game.worth_at(ahead + (x,) + setting, s) for setting in behind]
        row.append(sum(worths) % game.field)
    return row
