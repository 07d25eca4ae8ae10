"""Talks judged again, by their rows alone."""

from asktally.doubter import Doubter
from asktally.errors import NoCount, NoNumber, NoTurn


def judged(game, talk):
    doubter = Doubter(game)
    for number, row in enumerate(talk):
        tell_numbered(doubter, row, number)
    end = doubter.waits()
    if end[0] in ("hear", "coin"):
        return ("open",)
    return end


# The doubter doesn't know of rows, so its refusals come without a number.
def tell_numbered(doubter, row, number):
    try:
        tell(doubter, row, number == 0)
    except NoTurn:
        raise NoTurn(number) from None
    except NoCount:
        raise NoCount(number) from None
    except NoNumber:
        raise NoNumber(number) from None


# Claims and rows of say are heard alike, so the doubter can't see when one stands in the other's place.
def tell(doubter, row, is_first):
    if row[0] == "coin":
        doubter.toss(row[1])
    elif (row[0] == "claims") != is_first:
        raise NoTurn()
    else:
        doubter.hear(row[1])
