"""Players, begun rounds and their wins.

A game is known by its two players, the lesser one first; a begun round pairs the winner with the loser.
The words of a refusal never show what was handed in: not every value can be shown (a very long number can't).
"""

from playedall.errors import BadRound

MOST_PLAYERS = 10


def is_number(value, least, most):
    # True and False are whole numbers to Python, but none here.
    if isinstance(value, bool) or not isinstance(value, int):
        return False
    return least <= value <= most


def is_player(value, players):
    return is_number(value, 0, players - 1)


def is_won_game(pair, players):
    if not isinstance(pair, tuple) or len(pair) != 2:
        return False
    if not is_player(pair[0], players) or not is_player(pair[1], players):
        return False
    return pair[0] != pair[1]


def game_of(pair):
    return (min(pair), max(pair))


def is_begun(begun, players):
    if not isinstance(begun, list):
        return False
    # Ahead of the first game of all, (0, 1). As the games must rise, none can come twice.
    before = (0, 0)
    for pair in begun:
        if not is_won_game(pair, players) or game_of(pair) <= before:
            return False
        before = game_of(pair)
    return True


def check_players(players):
    if not is_number(players, 1, MOST_PLAYERS):
        raise BadRound("players must be a number from 1 to 10")


def check_begun(begun, players):
    check_players(players)
    if not is_begun(begun, players):
        raise BadRound("this is no begun round of so many players")


def all_games(players):
    games = []
    for lesser in range(players):
        games.extend([(lesser, greater) for greater in range(lesser + 1, players)])
    return games


def check_round(games, players):
    check_begun(games, players)
    # No game comes twice in a begun round, so where there are as many as there can be, none is left.
    if len(games) != len(all_games(players)):
        raise BadRound("this round is only begun")


def winners_of(begun):
    winners = {}
    for pair in begun:
        winners[game_of(pair)] = pair[0]
    return winners


def wins_of(begun, players):
    check_begun(begun, players)
    wins = [0] * players
    for pair in begun:
        wins[pair[0]] += 1
    return wins


def left_of(begun, players):
    check_begun(begun, players)
    winners = winners_of(begun)
    return [game for game in all_games(players) if game not in winners]
