"""The doubter, who hears a helper and is tossed coins in turn."""

from asktally.errors import NoCount, NoNumber, NoTurn
from asktally.field import is_number
from asktally.rows import both_ends, value_at
from asktally.settings import size_of


class Doubter:
    def __init__(self, game):
        self.game = game
        self.awaited = ("hear", len(game.trees))
        self.claims = ()
        self.s = 0
        self.heard = ()
        self.tossed = ()
        self.held = 0
        self.places = 0

    def waits(self):
        return self.awaited

    def due(self):
        return self.held

    def looked(self):
        return self.places

    def hear(self, values):
        if self.awaited[0] != "hear":
            raise NoTurn()
        if len(values) != self.awaited[1]:
            raise NoCount()
        if not all([is_number(value, self.game.field) for value in values]):
            raise NoNumber()
        self.places = self.places + len(values)
        if self.claims == ():
            self.hear_claims(tuple(values))
        else:
            self.hear_row(tuple(values))

    def toss(self, r):
        if self.awaited[0] != "coin":
            raise NoTurn()
        if not is_number(r, self.game.field):
            raise NoNumber()
        self.places = self.places + 1
        # Each coin but s comes behind a row.
        if self.heard == ():
            self.begin_rounds(r)
        else:
            self.held = value_at(self.heard, r, self.game.field)
            self.tossed = self.tossed + (r,)
            self.go_on()

    def hear_claims(self, values):
        self.claims = values
        if len(self.game.trees) == 1:
            self.begin_rounds(0)
        else:
            self.awaited = ("coin",)

    def begin_rounds(self, s):
        self.s = s
        self.held = self.game.mix(self.claims, s)
        self.go_on()

    def hear_row(self, values):
        self.heard = values
        if both_ends(values, self.game.field) == self.held:
            self.awaited = ("coin",)
        else:
            self.awaited = ("caught", len(self.tossed) + 1)

    def go_on(self):
        done = len(self.tossed)
        if done < len(self.game.switches):
            self.awaited = ("hear", self.game.degrees[done] + 1)
        else:
            self.look_at_trees()

    def look_at_trees(self):
        self.places = self.places + all_sizes(self.game)
        if self.held == self.game.worth_at(self.tossed, self.s):
            self.awaited = ("believed",)
        else:
            self.awaited = ("caught", len(self.tossed) + 1)

    def twin(self):
        other = Doubter(self.game)
        other.awaited = self.awaited
        other.claims = self.claims
        other.s = self.s
        other.heard = self.heard
        other.tossed = self.tossed
        other.held = self.held
        other.places = self.places
        return other


def all_sizes(game):
    return sum([size_of(tree) for tree in game.trees])


def told_ahead(game):
    rows = sum([degree + 1 for degree in game.degrees])
    return len(game.trees) + game.coins() + rows + all_sizes(game)
