"""Writes the texts of trees and of games."""


def tree_text(tree):
    word = tree[0]
    if word == "is":
        return tree[1]
    if word == "yes" or word == "no":
        return word
    first = tree_text(tree[1])
    if word == "not":
        return f"not {first}"
    second = tree_text(tree[2])
    return f"({first} {word} {second})"


def game_text(switches, trees, field):
    rows = [f"field {field}", " ".join(["switches"] + list(switches))]
    for tree in trees:
        text = tree_text(tree)
        rows.append(f"holds {text}")
    return "\n".join(rows)
