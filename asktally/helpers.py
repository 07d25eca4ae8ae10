"""Which helpers are let by."""

from asktally.errors import NoRow


def look_helper(helper):
    for number, row in enumerate(helper):
        if row[0] in ("if", "go") and not 0 <= row[-1] < len(helper):
            raise NoRow(number)
    return True
