"""Reads and writes the texts of talks."""

from asktally.errors import NoText
from asktally.words import is_figures


def read_talk(text):
    # A text without signs has no rows, though split would tell one.
    if text == "":
        return ()
    talk = []
    for number, row in enumerate(text.split("\n")):
        talk.append(talk_row(row, number))
    return tuple(talk)


def talk_row(text, number):
    words = text.split(" ")
    word = words[0]
    figures = words[1:]
    if figures == [] or not all([is_figures(part) for part in figures]):
        raise NoText(number)
    values = tuple([int(part) for part in figures])
    if word == "claims" or word == "say":
        return (word, values)
    if word != "coin" or len(values) > 1:
        raise NoText(number)
    return (word, values[0])


def talk_text(talk):
    return "\n".join([row_text(row) for row in talk])


def row_text(row):
    values = (row[1],) if row[0] == "coin" else row[1]
    return " ".join([row[0]] + [str(value) for value in values])
