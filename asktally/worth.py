"""What trees are worth at points of a field."""


def worth_of(tree, switches, point, p):
    word = tree[0]
    if word == "is":
        return point[switches.index(tree[1])] % p
    if word == "yes":
        return 1
    if word == "no":
        return 0
    first = worth_of(tree[1], switches, point, p)
    if word == "not":
        return (1 - first) % p
    return joined_worth(word, first, worth_of(tree[2], switches, point, p), p)


def joined_worth(word, first, second, p):
    both = first * second
    if word == "and":
        return both % p
    if word == "or":
        return (first + second - both) % p
    odd = first + second - 2 * both
    if word == "odd":
        return odd % p
    return (1 - odd) % p
