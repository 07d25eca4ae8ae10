"""Talks: a doubter hears a helper, by a row of coins."""

from asktally.doubter import Doubter
from asktally.machine import Machine


# Ahead of the claims the doubter holds 0, and no coin is tossed: just what a helper is told in round 0.
def asked_once(machine, doubter):
    values = machine.say(doubter.waits()[1], doubter.due(), doubter.s, list(doubter.tossed))
    doubter.hear(values)
    return tuple(values)


def talked(game, helper, coins):
    machine = Machine(game, helper)
    doubter = Doubter(game)
    talk = [("claims", asked_once(machine, doubter))]
    tossed = 0
    while doubter.waits()[0] in ("hear", "coin"):
        if doubter.waits()[0] == "hear":
            talk.append(("say", asked_once(machine, doubter)))
        else:
            doubter.toss(coins[tossed])
            talk.append(("coin", coins[tossed]))
            tossed = tossed + 1
    return (tuple(talk), doubter.waits())
