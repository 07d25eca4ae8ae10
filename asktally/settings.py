"""Settings of switches, where trees hold, and what stands in trees."""


def all_settings(n):
    told = [()]
    for switch in range(n):
        longer = []
        for setting in told:
            longer.append(setting + (0,))
            longer.append(setting + (1,))
        told = longer
    return told


def holds_at(tree, switches, setting):
    word = tree[0]
    if word == "is":
        return setting[switches.index(tree[1])] == 1
    if word == "yes" or word == "no":
        return word == "yes"
    first = holds_at(tree[1], switches, setting)
    if word == "not":
        return not first
    return joined(word, first, holds_at(tree[2], switches, setting))


def joined(word, first, second):
    if word == "and":
        return first and second
    if word == "or":
        return first or second
    if word == "odd":
        return first != second
    return first == second


def count_of(tree, switches):
    holding = [setting for setting in all_settings(len(switches)) if holds_at(tree, switches, setting)]
    return len(holding)


def trees_within(tree):
    if tree[0] == "is":
        return ()
    return tree[1:]


def size_of(tree):
    return 1 + sum([size_of(part) for part in trees_within(tree)])


def names_in(tree):
    if tree[0] == "is":
        return [tree[1]]
    names = []
    for part in trees_within(tree):
        names.extend(names_in(part))
    return names
