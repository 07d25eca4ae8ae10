"""Reads the texts of trees and of games."""

from asktally.errors import NoText
from asktally.scan import Scan
from asktally.words import is_figures, is_name

JOINING_WORDS = ("and", "or", "odd", "same")
MOST_WITHIN = 10
MOST_PARTS = 30
MOST_SWITCHES = 6
MOST_TREES = 4
FIELD_HEAD = "field "
TREE_HEAD = "holds "
FIRST_TREE_ROW = 2


def read_tree(text):
    return tree_in_row(text, 0)


def read_game(text):
    rows = text.split("\n")
    field = field_in_row(rows[0])
    switches = switches_in_row(row_or_end(rows, 1))
    row_or_end(rows, FIRST_TREE_ROW)
    trees = trees_in_rows(rows)
    return (switches, trees, field)


def row_or_end(rows, number):
    if number >= len(rows):
        raise NoText(len(rows))
    return rows[number]


def field_in_row(text):
    figures = text[len(FIELD_HEAD):]
    if not text.startswith(FIELD_HEAD) or not is_figures(figures):
        raise NoText(0)
    return int(figures)


def switches_in_row(text):
    words = text.split(" ")
    names = words[1:]
    if words[0] != "switches" or len(names) > MOST_SWITCHES:
        raise NoText(1)
    if not all([is_name(name) for name in names]):
        raise NoText(1)
    return tuple(names)


def trees_in_rows(rows):
    trees = []
    for number in range(FIRST_TREE_ROW, len(rows)):
        if len(trees) == MOST_TREES or not rows[number].startswith(TREE_HEAD):
            raise NoText(number)
        trees.append(tree_in_row(rows[number][len(TREE_HEAD):], number))
    return tuple(trees)


def tree_in_row(text, row):
    scan = Scan(text, row, MOST_WITHIN, MOST_PARTS)
    tree = next_tree(scan, 1)
    scan.finish()
    return tree


def next_tree(scan, within):
    scan.enter(within)
    if scan.sees("("):
        return joined_tree(scan, within)
    word = scan.word()
    if word == "not":
        scan.take(" ")
        return ("not", next_tree(scan, within + 1))
    if word == "yes" or word == "no":
        return (word,)
    if not is_name(word):
        raise NoText(scan.row)
    return ("is", word)


def joined_tree(scan, within):
    scan.take("(")
    left = next_tree(scan, within + 1)
    scan.take(" ")
    word = scan.word()
    if word not in JOINING_WORDS:
        raise NoText(scan.row)
    scan.take(" ")
    right = next_tree(scan, within + 1)
    scan.take(")")
    return (word, left, right)
