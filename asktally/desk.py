"""The desk: answers with texts, of texts."""

from asktally.errors import NoCount, NoNumber, NoText
from asktally.field import is_number
from asktally.games import Game
from asktally.helpers import look_helper
from asktally.helptexts import read_helper
from asktally.judging import judged
from asktally.liars import let_by_at_most
from asktally.powers import rows_of_coins
from asktally.reader import read_game
from asktally.talks import talked
from asktally.talktexts import read_talk, talk_text
from asktally.truth import counts_of
from asktally.weighing import weighed
from asktally.words import is_figures


def counted(text):
    return words_text(["counts"] + counts_of(game_in(text)))


def talk_of(game, helper, coins):
    asked = game_in(game)
    rows = helper_in(helper)
    told = talked(asked, rows, numbers_in(coins, asked.coins(), asked.field))
    return talk_text(told[0]) + "\n" + words_text(told[1])


def judge_of(game, talk):
    asked = game_in(game)
    return words_text(judged(asked, read_talk(talk)))


def weigh_of(game, helper):
    asked = game_in(game)
    told = weighed(asked, helper_in(helper))
    words = ["let by", told[0], "of", rows_of_coins(asked)]
    # Without coins a helper can be caught by the row of none.
    if told[1] is not None:
        words = words + ["caught by"] + list(told[1])
    return words_text(words)


def most_of(game, claims):
    asked = game_in(game)
    numbers = numbers_in(claims, len(asked.trees), asked.field)
    return words_text(["at most", let_by_at_most(asked, numbers), "of", rows_of_coins(asked)])


def game_in(text):
    parts = read_game(text)
    return Game(parts[0], parts[1], parts[2])


def helper_in(text):
    helper = read_helper(text)
    look_helper(helper)
    return helper


def numbers_in(text, many, p):
    words = [] if text == "" else text.split(" ")
    if not all([is_figures(word) for word in words]):
        raise NoText(0)
    if len(words) != many:
        raise NoCount()
    numbers = [int(word) for word in words]
    if not all([is_number(number, p) for number in numbers]):
        raise NoNumber()
    return numbers


def words_text(words):
    return " ".join([str(word) for word in words])
