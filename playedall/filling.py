"""Begun rounds filled: to just the wins that are asked, or so that a player comes first.

Both deal out the games that are left, each to one of its two players, where each player has room for so many.
Where that can't be done, the players among whom the dealing gets stuck are the reason that is told.
"""

from playedall.answers import Rivals, Round, Sum, Weak
from playedall.errors import BadPlayer, BadWins
from playedall.games import MOST_PLAYERS, all_games, is_number, is_player, left_of, winners_of, wins_of


def other_of(game, player):
    return game[1] if player == game[0] else game[0]


def pair_of(game, winner):
    return game if winner == game[0] else (game[1], game[0])


def takers_of(game, dealt):
    # Who can come to one game more if this one is dealt: its own two players, and whoever can be handed a game
    # by one who can. For each of them the game that it would take.
    takers = {game[0]: game, game[1]: game}
    waiting = list(game)
    at = 0
    while at < len(waiting):
        giver = waiting[at]
        at += 1
        for held in [held for held in dealt if dealt[held] == giver]:
            taker = other_of(held, giver)
            if taker not in takers:
                takers[taker] = held
                waiting.append(taker)
    return takers


def hand_on(game, last, takers, dealt):
    # Only the last one has a game more afterwards: each one on the way takes one game and gives one.
    taker = last
    while takers[taker] != game:
        held = takers[taker]
        dealt[held] = taker
        taker = other_of(held, taker)
    dealt[game] = taker


def deal(left, room):
    # A pair: who got which game, and the players among whom it got stuck (none if all games are dealt).
    # The stuck ones have no room left, each game that they hold is one among them, and one more is not dealt:
    # so there are more games left among them than they have room for.
    dealt = {}
    overfull = [player for player, count in enumerate(room) if count < 0]
    if len(overfull) > 0:
        return (dealt, overfull)
    spare = list(room)
    for game in left:
        takers = takers_of(game, dealt)
        free = [player for player in takers if spare[player] > 0]
        if len(free) == 0:
            return (dealt, sorted(takers))
        hand_on(game, free[0], takers, dealt)
        spare[free[0]] -= 1
    return (dealt, [])


def round_with(begun, players, dealt):
    winners = winners_of(begun)
    winners.update(dealt)
    return Round([pair_of(game, winners[game]) for game in all_games(players)])


def check_wins(wins):
    if not isinstance(wins, list) or not 1 <= len(wins) <= MOST_PLAYERS:
        raise BadWins("wins must be a list of 1 to 10 numbers")
    if not all([is_number(count, 0, len(wins) - 1) for count in wins]):
        raise BadWins("each player's wins must be a number from 0 to one less than there are players")


def filled(begun, wins):
    check_wins(wins)
    players = len(wins)
    have = wins_of(begun, players)
    if sum(wins) != len(all_games(players)):
        return Sum()
    room = [wins[player] - have[player] for player in range(players)]
    result = deal(left_of(begun, players), room)
    if len(result[1]) > 0:
        return Weak(result[1])
    # All wins together are as many as games, so where all games found room, no room is left.
    return round_with(begun, players, result[0])


def may_lead(begun, players, who):
    have = wins_of(begun, players)
    if not is_player(who, players):
        raise BadPlayer("this is none of the players")
    left = left_of(begun, players)
    own = [game for game in left if who in game]
    most = have[who] + len(own)
    room = [most - count for count in have]
    # It never harms the player to win all that it has left, so only the others' games are in question.
    result = deal([game for game in left if who not in game], room)
    if len(result[1]) > 0:
        return Rivals(result[1])
    dealt = result[0]
    for game in own:
        dealt[game] = who
    return round_with(begun, players, dealt)
