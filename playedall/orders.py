"""Orders of all players, and how many upsets they have."""

from playedall.errors import BadPlayer, BadRound
from playedall.games import check_round, is_player

MOST_ORDERED = 8


def check_order(order, players):
    if not isinstance(order, list) or len(order) != players:
        raise BadPlayer("an order must be a list of all players")
    if not all([is_player(player, players) for player in order]):
        raise BadPlayer("there is one in the order who is none of the players")
    if sorted(order) != list(range(players)):
        raise BadPlayer("each player must be in the order once")


def upsets(games, players, order):
    check_round(games, players)
    check_order(order, players)
    return len([pair for pair in games if order.index(pair[1]) < order.index(pair[0])])


def best_of(some, games, known):
    # The fewest upsets among some players, with the first order that has them. Whoever comes first, the others
    # behind it are best ordered by themselves; so what is known of fewer players is asked again and again.
    if len(some) == 0:
        return (0, [])
    if some not in known:
        choices = []
        for first in some:
            behind = tuple([player for player in some if player != first])
            best = best_of(behind, games, known)
            lost = len([player for player in behind if (player, first) in games])
            choices.append((lost + best[0], [first] + best[1]))
        known[some] = min(choices)
    return known[some]


def fewest(games, players):
    check_round(games, players)
    if players > MOST_ORDERED:
        raise BadRound("the fewest upsets are told of at most 8 players")
    return best_of(tuple(range(players)), games, {})
