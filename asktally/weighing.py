"""Helpers weighed over all rows of coins."""

from asktally.doubter import Doubter
from asktally.errors import TooMany
from asktally.machine import Machine
from asktally.powers import rows_of_coins
from asktally.talks import asked_once

MOST_ROWS = 4000


def weighed(game, helper):
    rows = rows_of_coins(game)
    if rows > MOST_ROWS:
        raise TooMany(rows)
    return weighed_behind(Machine(game, helper), Doubter(game), ())


# Talks that begin alike are played once as far as they are alike: both sides go on as twins, one pair for each coin.
def weighed_behind(machine, doubter, coins):
    while doubter.waits()[0] == "hear":
        asked_once(machine, doubter)
    if doubter.waits()[0] == "believed":
        return (1, None)
    if doubter.waits()[0] == "caught":
        return (0, first_row(doubter.game, coins))
    number = 0
    row = None
    for coin in range(doubter.game.field):
        behind = doubter.twin()
        behind.toss(coin)
        told = weighed_behind(machine.twin(), behind, coins + (coin,))
        number = number + told[0]
        if row is None:
            row = told[1]
    return (number, row)


# A talk that ended early is caught whichever coins are left, so by noughts too.
def first_row(game, coins):
    return coins + (0,) * (game.coins() - len(coins))
