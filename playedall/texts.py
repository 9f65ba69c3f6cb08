"""Begun rounds as texts."""

from playedall.errors import BadText
from playedall.games import check_begun, check_players, is_begun

# Of ten players each is written by one sign, so that a pair always takes three.
DIGITS = "0123456789"


def written(begun, players):
    check_begun(begun, players)
    return " ".join([DIGITS[pair[0]] + ">" + DIGITS[pair[1]] for pair in begun])


def is_written_pair(word):
    return len(word) == 3 and word[0] in DIGITS and word[1] == ">" and word[2] in DIGITS


def pairs_in(text):
    # Split at each single blank, so that one too many leaves an empty word, which is no pair.
    words = text.split(" ") if len(text) > 0 else []
    if not all([is_written_pair(word) for word in words]):
        raise BadText("each game must be written as winner, >, loser, with one blank between")
    return [(DIGITS.index(word[0]), DIGITS.index(word[2])) for word in words]


def read(text, players):
    check_players(players)
    if not isinstance(text, str):
        raise BadText("this is no text")
    begun = pairs_in(text)
    if not is_begun(begun, players):
        raise BadText("these are no games of so many players, each once and in their order")
    return begun
