"""What a helper can ask about in one round."""

from asktally.rows import value_at
from asktally.truth import counts_of, true_row


class Asking:
    def __init__(self, game, number, many, due, s, coins):
        self.game = game
        self.number = number
        self.many = many
        self.held = due
        self.s = s
        self.tossed = tuple(coins)
        self.truths = None

    def plain_value(self, word):
        if word == "round":
            return self.number % self.game.field
        if word == "asked":
            return self.many % self.game.field
        return self.held

    def coin_at(self, place):
        tossed = self.tossed
        if len(self.game.trees) > 1:
            tossed = (self.s,) + tossed
        if 1 <= place <= len(tossed):
            return tossed[place - 1]
        return 0

    # Told once a round: a helper may ask for what is true hundreds of times in it.
    def true_numbers(self):
        if self.truths is None:
            if self.number == 0:
                self.truths = counts_of(self.game)
            else:
                self.truths = true_row(self.game, self.s, self.tossed)
        return self.truths

    def true_at(self, place):
        truths = self.true_numbers()
        if self.number > 0:
            return value_at(truths, place, self.game.field)
        if place < len(truths):
            return truths[place] % self.game.field
        return 0
