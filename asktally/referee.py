"""Two helpers before a referee, who tosses no coins."""

from asktally.machine import Machine
from asktally.settings import holds_at


class Side:
    def __init__(self, game, helper):
        self.field = game.field
        self.machine = Machine(game, helper)
        self.held = self.machine.say(1, 0, 0, [])[0]
        self.said = []

    def adds_up(self, ways):
        self.said = self.machine.say(2, self.held, 0, list(ways))
        return (self.said[0] + self.said[1]) % self.field == self.held

    def go_way(self, way):
        self.held = self.said[way]


def settled(game, one, other):
    first = Side(game, one)
    second = Side(game, other)
    if first.held == second.held:
        return ("agreed", first.held)
    ways = ()
    while len(ways) < len(game.switches):
        first_fits = first.adds_up(ways)
        second_fits = second.adds_up(ways)
        if not first_fits or not second_fits:
            return ("caught", not first_fits, not second_fits, ways)
        way = way_between(first, second)
        first.go_way(way)
        second.go_way(way)
        ways = ways + (way,)
    truth = 1 if holds_at(game.trees[0], game.switches, ways) else 0
    return ("caught", first.held != truth, second.held != truth, ways)


# They are held to unlike sums, so where their first numbers are the same the second ones aren't.
def way_between(first, second):
    return 0 if first.said[0] != second.said[0] else 1
