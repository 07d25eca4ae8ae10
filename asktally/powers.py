"""Powers in whole numbers: how many rows of coins there are."""


def power(number, times):
    told = 1
    for step in range(times):
        told = told * number
    return told


def rows_of_coins(game):
    return power(game.field, game.coins())
