"""Rows and rings through all players, the pieces of a round, and its kings."""

from playedall.errors import BadRound
from playedall.games import check_round, wins_of


def row_through(games, players):
    check_round(games, players)
    row = []
    for player in range(players):
        # Ahead of the first one that it won over: the one before that won over it.
        at = 0
        while at < len(row) and (row[at], player) in games:
            at += 1
        row.insert(at, player)
    return row


def pieces(games, players):
    check_round(games, players)
    wins = wins_of(games, players)
    parts = []
    piece = []
    together = 0
    # Who stands in an earlier piece has more wins, so only the first few by wins can be parted from the others.
    for at, player in enumerate(sorted(range(players), key=lambda each: -wins[each])):
        piece.append(player)
        together += wins[player]
        # The first ones have just so many wins together if they won over all others.
        first = at + 1
        if together == first * at // 2 + first * (players - first):
            parts.append(sorted(piece))
            piece = []
    return parts


def place_in(ring, player, games):
    # Behind which one in the ring the player may come, or None.
    for at in range(len(ring)):
        after = ring[(at + 1) % len(ring)]
        if (ring[at], player) in games and (player, after) in games:
            return at
    return None


def wider(ring, others, games):
    for player in others:
        at = place_in(ring, player, games)
        if at is not None:
            return ring[:at + 1] + [player] + ring[at + 1:]
    # Now each other one won over the whole ring or lost to all of it. As the round is one piece, there are both,
    # and one who lost to the ring won over one who won over it: these two come in together.
    above = [player for player in others if (player, ring[0]) in games]
    below = [player for player in others if (ring[0], player) in games]
    ways = [pair for pair in games if pair[0] in below and pair[1] in above]
    return ring + list(ways[0])


def ring_through(games, players):
    parts = pieces(games, players)
    if players == 1:
        raise BadRound("one player alone has no ring")
    if len(parts) > 1:
        return (False, parts[0])
    ring = [0]
    while len(ring) < players:
        ring = wider(ring, [player for player in range(players) if player not in ring], games)
    return (True, ring)


def is_king(player, games, players):
    beaten = [each for each in range(players) if (player, each) in games]
    for other in range(players):
        ways = [each for each in beaten if each == other or (each, other) in games]
        if other != player and len(ways) == 0:
            return False
    return True


def kings(games, players):
    check_round(games, players)
    return [player for player in range(players) if is_king(player, games, players)]
