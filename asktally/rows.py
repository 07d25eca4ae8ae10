"""Rows of values, and the rules for which they stand."""

from asktally.field import inverse_of


def value_at(values, r, p):
    place = r % p
    if place < len(values):
        return values[place] % p
    return value_behind(values, place, p)


def both_ends(values, p):
    return (value_at(values, 0, p) + value_at(values, 1, p)) % p


# Lagrange's rule, its products kept, so that a row as long as the field is told in steps as many as its numbers.
def value_behind(values, r, p):
    last = len(values) - 1
    ahead = products([r - place for place in range(last)], p)
    behind = products([r - last + place for place in range(last)], p)
    shares = inverse_factorials(last, p)
    total = 0
    for place in range(last + 1):
        # The product of place - k, over all other places k, is place! times (last - place)!, by turns with a minus.
        share = shares[place] * shares[last - place] % p
        part = values[place] * ahead[place] * behind[last - place] % p * share
        if (last - place) % 2 == 1:
            part = -part
        total = (total + part) % p
    return total


def products(numbers, p):
    told = [1]
    for number in numbers:
        told.append(told[-1] * number % p)
    return told


def inverse_factorials(last, p):
    numbers = list(range(1, last + 1))
    whole = inverse_of(products(numbers, p)[-1], p)
    told = products([last - place for place in range(last)], p)
    return [whole * told[last - place] % p for place in range(last + 1)]
