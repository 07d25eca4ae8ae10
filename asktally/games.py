"""Games: switches, trees and a field, looked at when they are made."""

from asktally.errors import NoField, NoName, SmallField, Twice
from asktally.field import is_field
from asktally.settings import names_in
from asktally.worth import worth_of

FIELDS_END = 1000000


class Game:
    def __init__(self, switches, trees, field):
        self.switches = tuple(switches)
        self.trees = tuple(trees)
        self.field = field
        self.degrees = [degree_of(name, self.trees) for name in self.switches]
        look_switches(self.switches)
        look_names(self.trees, self.switches)
        look_field(field)
        look_size(field, self.degrees + [len(self.trees) - 1])

    # From the last number on, so that each step is one product and one sum, and s plays no part with one number.
    def mix(self, numbers, s):
        total = 0
        for number in reversed(numbers):
            total = (total * s + number) % self.field
        return total

    def worth_at(self, point, s):
        return self.mix([worth_of(tree, self.switches, point, self.field) for tree in self.trees], s)

    def coins(self):
        if len(self.trees) == 1:
            return len(self.switches)
        return len(self.switches) + 1


def degree_of(name, trees):
    return max([names_in(tree).count(name) for tree in trees])


def look_switches(switches):
    for place, name in enumerate(switches):
        if name in switches[:place]:
            raise Twice(name)


def look_names(trees, switches):
    for tree in trees:
        for name in names_in(tree):
            if name not in switches:
                raise NoName(name)


def look_field(field):
    if field >= FIELDS_END or not is_field(field):
        raise NoField(field)


def look_size(field, degrees):
    greatest = max(degrees)
    if field <= greatest:
        raise SmallField(greatest)
