"""Does what a helper's rows say, round by round."""

from asktally.asking import Asking
from asktally.terms import value_of

MOST_ROWS_DONE = 200


class Machine:
    def __init__(self, game, helper):
        self.game = game
        self.helper = helper
        self.next_round = 0
        self.boxes = {}

    def say(self, many, due, s, coins):
        asking = Asking(self.game, self.next_round, many, due, s, coins)
        self.next_round = self.next_round + 1
        said = []
        place = 0
        done = 0
        while place < len(self.helper) and len(said) < many and done < MOST_ROWS_DONE:
            place = self.do_row(place, said, asking)
            done = done + 1
        return said + [0] * (many - len(said))

    # Tells the place of the row that comes next; behind the last row nothing does.
    def do_row(self, place, said, asking):
        row = self.helper[place]
        word = row[0]
        if word == "end":
            return len(self.helper)
        if word == "go":
            return row[1]
        if word == "set":
            self.boxes[row[1]] = value_of(row[2], self.boxes, asking)
        elif word == "say":
            said.append(value_of(row[1], self.boxes, asking))
        elif value_of(row[1], self.boxes, asking) != 0:
            return row[2]
        return place + 1

    def box(self, x):
        return self.boxes.get(x, 0)

    def twin(self):
        other = Machine(self.game, self.helper)
        other.next_round = self.next_round
        other.boxes = dict(self.boxes)
        return other
