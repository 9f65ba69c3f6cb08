"""Rounds turned about: three players who won over one another in a ring, and the way between rounds of the same wins.

A ring is a list or tuple of players in which each won over the next one, and the last one over the first.
"""

from playedall.errors import BadTurn, Unlike
from playedall.games import check_round, is_player, wins_of


def pairs_round(ring):
    return [(ring[at - 1], ring[at]) for at in range(len(ring))]


def turned_about(games, ring):
    pairs = pairs_round(ring)
    return [(pair[1], pair[0]) if pair in pairs else pair for pair in games]


def is_turn(turn, games, players):
    if not isinstance(turn, tuple) or len(turn) != 3:
        return False
    if not all([is_player(player, players) for player in turn]):
        return False
    # No game was won by both of its players, so a player that comes twice fails here too.
    return all([pair in games for pair in pairs_round(turn)])


def turned(games, players, turn):
    check_round(games, players)
    if not is_turn(turn, games, players):
        raise BadTurn("a turn must be three players of whom each won over the next one, the last one over the first")
    return turned_about(games, turn)


def ring_apart(games, goal):
    # As no wins differ, whoever won a game that it loses in the goal also lost one that it wins there.
    # So the walk always goes on, and at last comes back to one that it has passed.
    apart = {}
    for pair in games:
        if pair not in goal:
            apart[pair[0]] = pair[1]
    row = [min(apart)]
    while apart[row[-1]] not in row:
        row.append(apart[row[-1]])
    return row[row.index(apart[row[-1]]):]


def turns_round(ring, games):
    # The threes of the first player and each two neighbours fill the ring. A game of the first player that lies
    # between two such threes is turned by both, so it stays; who won it says which of the two must come first.
    if len(ring) < 3:
        return []
    rest = turns_round([ring[0]] + ring[2:], games)
    turn = (ring[0], ring[1], ring[2])
    if (ring[2], ring[0]) in games:
        return [turn] + rest
    return rest + [turn]


def turns(one, other, players):
    check_round(one, players)
    check_round(other, players)
    if wins_of(one, players) != wins_of(other, players):
        raise Unlike("these rounds have other wins")
    row = []
    games = list(one)
    # Each ring takes fewer turns than it has games, and its games are as in the goal afterwards:
    # so there are never more turns than games.
    while games != other:
        ring = ring_apart(games, other)
        row.extend(turns_round(ring, games))
        games = turned_about(games, ring)
    return row


def rings(games, players):
    check_round(games, players)
    # Any three who don't go round have just one who won over both others, so these are counted and taken off.
    threes = players * (players - 1) * (players - 2) // 6
    return threes - sum([count * (count - 1) // 2 for count in wins_of(games, players)])


def only(games, players):
    return rings(games, players) == 0
