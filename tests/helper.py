"""What several tests need: begun rounds, wrong values, and plain ways to count."""

import itertools
import random


def games_of(players):
    return list(itertools.combinations(range(players), 2))


def all_rounds(players):
    """Every round there is of so many players."""
    choices = [((a, b), (b, a)) for a, b in games_of(players)]
    return [list(pairs) for pairs in itertools.product(*choices)]


def all_begun(players):
    """Every begun round there is of so many players."""
    choices = [(None, (a, b), (b, a)) for a, b in games_of(players)]
    return [[pair for pair in pairs if pair] for pairs in itertools.product(*choices)]


def some_begun(players, chance, played, lean):
    """A begun round: `played` of 10 games are played, `lean` of 10 won by the lesser player."""
    begun = []
    for a, b in games_of(players):
        if chance.randrange(10) < played:
            begun.append((a, b) if chance.randrange(10) < lean else (b, a))
    return begun


def many_begun(players, times, seed):
    chance = random.Random(seed)
    for _ in range(times):
        yield some_begun(players, chance, chance.randrange(11), chance.choice((0, 2, 5, 8, 10))), chance


def completed(begun, players, chance):
    """A round that keeps the begun games, the others won by chance."""
    winners = {frozenset(pair): pair for pair in begun}
    return [winners.get(frozenset(game)) or chance.choice((game, game[::-1])) for game in games_of(players)]


def by_order(order):
    """The round in which each one won over all who come later in the order."""
    at = {player: place for place, player in enumerate(order)}
    return [(a, b) if at[a] < at[b] else (b, a) for a, b in games_of(len(order))]


def shuffled(players, chance):
    return chance.sample(range(players), players)


def drawn(players, chance):
    return completed([], players, chance)


def with_upsets(players, chance):
    """A round by an order, but for one game in four or so."""
    return [pair[::-1] if chance.randrange(4) == 0 else pair for pair in by_order(shuffled(players, chance))]


def in_parts(players, chance):
    """A round that falls into parts, one ahead of the other; within a part by chance."""
    order = shuffled(players, chance)
    starts = {place for place in range(players) if chance.randrange(3) == 0}
    part = {player: sum(1 for start in starts if start <= place) for place, player in enumerate(order)}
    return [pair if part[pair[0]] <= part[pair[1]] else pair[::-1] for pair in drawn(players, chance)]


def in_a_ring(players, chance):
    """A round in which each one won over the next ones, as far as half the way round."""
    order = shuffled(players, chance)
    at = {player: place for place, player in enumerate(order)}
    return [(a, b) if (at[b] - at[a]) % players <= players // 2 else (b, a) for a, b in games_of(players)]


def some_rounds(players, times, seed):
    """Rounds of every sort, the plain orders among them."""
    chance = random.Random(seed)
    rounds = [by_order(range(players)), by_order(range(players)[::-1])]
    for _ in range(times):
        rounds.append(by_order(shuffled(players, chance)))
        rounds.extend(make(players, chance) for make in (with_upsets, drawn, in_parts, in_a_ring))
    return rounds


def threes_of(games, players):
    """Every three that goes round, three times: told from each of its players."""
    return [(a, b, c) for a, b, c in itertools.permutations(range(players), 3)
            if (a, b) in games and (b, c) in games and (c, a) in games]


def count_wins(pairs, players):
    return [sum(1 for pair in pairs if pair[0] == player) for player in range(players)]


def count_left(begun, some):
    """How many games among these players are not begun."""
    return sum(1 for game in itertools.combinations(sorted(some), 2)
               if game not in begun and game[::-1] not in begun)


def is_round(pairs, players):
    return (isinstance(pairs, list) and all(isinstance(pair, tuple) and len(pair) == 2 for pair in pairs)
            and [tuple(sorted(pair)) for pair in pairs] == games_of(players)
            and all(isinstance(player, int) for pair in pairs for player in pair))


def keeps(pairs, begun):
    return all(pair in pairs for pair in begun)


def rises(some):
    return isinstance(some, list) and all(a < b for a, b in zip(some, some[1:]))


class Unfriendly:
    """Answers no question at all."""

    def refuse(self, *anything):
        raise RuntimeError("not to be asked")

    __eq__ = __lt__ = __le__ = __gt__ = __ge__ = __len__ = __iter__ = __getitem__ = refuse
    __bool__ = __index__ = __int__ = __hash__ = __repr__ = __str__ = __contains__ = refuse


def round_itself():
    knot = []
    knot.append(knot)
    return knot


# Of every kind, and none of them a number; those that hash or compare badly too.
NO_NUMBERS = [None, True, False, 1.0, 0.0, float("nan"), float("inf"), 1j, "", "1", b"1", (), (1,), [], [1], {}, {1: 1},
              set(), frozenset(), range(3), object(), int, len, iter([]), Unfriendly(), round_itself()]

NO_PLAYERS = NO_NUMBERS + [0, 11, -1, 12, 10 ** 5000, -10 ** 5000]

NO_LISTS = [None, True, False, 0, 1, 2.0, "", "0>1", b"", (), ((0, 1),), {}, {(0, 1): True}, {(0, 1)}, frozenset(),
            range(2), iter([(0, 1)]), object(), list, len, Unfriendly(), 10 ** 5000]

# No begun rounds of three players.
NO_BEGUN = NO_LISTS + [
    [[0, 1]], [(0, 1), [0, 2]], ["01"], [{0: 1, 1: 0}], [{0, 1}], [None], [0], [0, 1], [Unfriendly()], round_itself(),
    [()], [(0,)], [(0, 1, 2)], [(0, 1), (0, 2), (1, 2, 0)], [((0, 1),)],
    [(0, 0)], [(1, 1)], [(0, 1), (2, 2)],
    [(0, 3)], [(3, 0)], [(-1, 0)], [(0, -1)], [(0, 1), (0, 10 ** 5000)], [(-10 ** 5000, 1)],
    [(0, 1), (0, 1)], [(0, 1), (1, 0)], [(1, 0), (0, 1)], [(0, 2), (1, 2), (0, 2)], [(0, 1), (0, 2), (2, 1), (1, 2)],
    [(0, 2), (0, 1)], [(1, 2), (0, 2)], [(2, 1), (0, 1)], [(1, 2), (2, 0)], [(0, 1), (1, 2), (0, 2)],
    [(0, True)], [(True, 0)], [(False, 1)], [(1, False)], [(0, 1), (True, 2)], [(0, 1), (0, 2), (2, True)],
] + [[(0, value)] for value in NO_NUMBERS] + [[(value, 1)] for value in NO_NUMBERS]

# No rounds of three players: those that are only begun, too.
NO_ROUNDS = NO_BEGUN + [each for each in all_begun(3) if len(each) < 3]
