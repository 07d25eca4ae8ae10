"""What the terms of helpers are worth."""

from asktally.field import inverse_of


def value_of(term, boxes, asking):
    word = term[0]
    if word == "num":
        return term[1] % asking.game.field
    if word == "box":
        return boxes.get(term[1], 0)
    if word == "coin":
        return asking.coin_at(value_of(term[1], boxes, asking))
    if word == "true":
        return asking.true_at(value_of(term[1], boxes, asking))
    if word == "op":
        first = value_of(term[2], boxes, asking)
        second = value_of(term[3], boxes, asking)
        return op_value(term[1], first, second, asking.game.field)
    return asking.plain_value(word)


def op_value(sign, first, second, p):
    if sign == "+":
        return (first + second) % p
    if sign == "-":
        return (first - second) % p
    if sign == "*":
        return first * second % p
    if sign == "/":
        return divided(first, second, p)
    if sign == "=":
        return 1 if first == second else 0
    return 1 if first < second else 0


def divided(first, second, p):
    if second == 0:
        return 0
    return first * inverse_of(second, p) % p
