"""The refusals of the program."""


class AskError(ValueError):
    def __init__(self, words=""):
        ValueError.__init__(self, words)


class NoText(AskError):
    def __init__(self, row):
        AskError.__init__(self, f"no text of this form, by row {row}")
        self.row = row


class Twice(AskError):
    def __init__(self, name):
        AskError.__init__(self, f"a switch stands twice: {name}")
        self.name = name


class NoName(AskError):
    def __init__(self, name):
        AskError.__init__(self, f"no switch is called {name}")
        self.name = name


class NoField(AskError):
    def __init__(self, number):
        AskError.__init__(self, f"no field: {number}")
        self.number = number


class SmallField(AskError):
    def __init__(self, degree):
        AskError.__init__(self, f"the field must be greater than {degree}")
        self.degree = degree


class NoRow(AskError):
    def __init__(self, row):
        AskError.__init__(self, f"row {row} goes to no row of the helper")
        self.row = row


class NoTurn(AskError):
    def __init__(self, row=None):
        AskError.__init__(self, f"out of turn, row {row}")
        self.row = row


class NoCount(AskError):
    def __init__(self, row=None):
        AskError.__init__(self, f"more or fewer numbers than due, row {row}")
        self.row = row


class NoNumber(AskError):
    def __init__(self, row=None):
        AskError.__init__(self, f"no number of the field, row {row}")
        self.row = row


class TooMany(AskError):
    def __init__(self, rows):
        AskError.__init__(self, f"too many rows of coins: {rows}")
        self.rows = rows
