"""Reads and writes the texts of helpers."""

from asktally.errors import NoText
from asktally.scan import Scan
from asktally.words import is_figures, is_name

SIGNS = ("+", "-", "*", "/", "=", "<")
ASKING_WORDS = ("coin", "true")
PLAIN_WORDS = ("round", "due", "asked")
MOST_WITHIN = 8
MOST_PARTS = 20
MOST_ROWS = 60


def read_helper(text):
    # A text without signs has no rows, though split would tell one.
    if text == "":
        return ()
    helper = []
    for number, row in enumerate(text.split("\n")):
        if number == MOST_ROWS:
            raise NoText(number)
        helper.append(helper_row(row, number))
    return tuple(helper)


def helper_row(text, number):
    scan = Scan(text, number, MOST_WITHIN, MOST_PARTS)
    word = scan.word()
    row = (word,)
    if word == "set":
        row = row + (next_name(scan), next_term(scan, 1))
    elif word == "say":
        row = row + (next_term(scan, 1),)
    elif word == "if":
        row = row + (next_term(scan, 1), next_figures(scan))
    elif word == "go":
        row = row + (next_figures(scan),)
    elif word != "end":
        raise NoText(number)
    scan.finish()
    return row


def next_name(scan):
    scan.take(" ")
    word = scan.word()
    if not is_name(word):
        raise NoText(scan.row)
    return word


def next_figures(scan):
    scan.take(" ")
    word = scan.word()
    if not is_figures(word):
        raise NoText(scan.row)
    return int(word)


def next_term(scan, within):
    scan.take(" ")
    scan.enter(within)
    if scan.sees("("):
        return term_in_bracket(scan, within)
    word = scan.word()
    if word in PLAIN_WORDS:
        return (word,)
    if is_figures(word):
        return ("num", int(word))
    if not is_name(word):
        raise NoText(scan.row)
    return ("box", word)


def term_in_bracket(scan, within):
    scan.take("(")
    word = scan.word()
    first = next_term(scan, within + 1)
    if word in ASKING_WORDS:
        term = (word, first)
    elif word in SIGNS:
        term = ("op", word, first, next_term(scan, within + 1))
    else:
        raise NoText(scan.row)
    scan.take(")")
    return term


def helper_text(helper):
    return "\n".join([row_text(row) for row in helper])


def row_text(row):
    word = row[0]
    if word == "set":
        return " ".join([word, row[1], term_text(row[2])])
    if word == "say":
        return " ".join([word, term_text(row[1])])
    if word == "if":
        return " ".join([word, term_text(row[1]), str(row[2])])
    if word == "go":
        return " ".join([word, str(row[1])])
    return word


def term_text(term):
    word = term[0]
    if word == "num":
        return str(term[1])
    if word == "box":
        return term[1]
    if word in PLAIN_WORDS:
        return word
    if word == "op":
        return in_bracket(term[1], term[2:])
    return in_bracket(word, term[1:])


def in_bracket(word, terms):
    inside = " ".join([word] + [term_text(term) for term in terms])
    return f"({inside})"
