import itertools
import unittest

from playedall.errors import BadRound
from playedall.walks import kings, pieces, ring_through, row_through
from tests.helper import NO_PLAYERS, NO_ROUNDS, all_rounds, by_order, games_of, rises, some_rounds

# 0 won over 1, 1 over 2, 2 over 0; 3 lost to all of them.
RING_AHEAD = [(0, 1), (2, 0), (0, 3), (1, 2), (1, 3), (2, 3)]


def few_and_more():
    """Every round of up to five players, and some of every sort of up to ten."""
    for players in range(1, 6):
        for games in all_rounds(players):
            yield games, players
    for players in range(1, 11):
        for games in some_rounds(players, 8, players):
            yield games, players


def won_over_all(some, others, games):
    return all((a, b) in games for a in some for b in others)


def is_row(row, games):
    return all(pair in games for pair in zip(row, row[1:]))


def parts_of(some):
    """Every way to take some, but not all, of these, with those that are left."""
    for count in range(1, len(some)):
        for first in itertools.combinations(some, count):
            yield list(first), [player for player in some if player not in first]


def can_be_parted(some, games):
    return any(won_over_all(first, rest, games) for first, rest in parts_of(some))


class Row(unittest.TestCase):
    def test_told_by_hand(self):
        self.assertEqual(row_through([], 1), [0])
        self.assertEqual(row_through([(0, 1)], 2), [0, 1])
        self.assertEqual(row_through([(1, 0)], 2), [1, 0])
        self.assertIn(row_through([(0, 1), (2, 0), (1, 2)], 3), ([0, 1, 2], [1, 2, 0], [2, 0, 1]))

    def test_by_an_order_there_is_just_one(self):
        for order in itertools.permutations(range(5)):
            self.assertEqual(row_through(by_order(order), 5), list(order))
        self.assertEqual(row_through(by_order(range(10)), 10), list(range(10)))

    def test_all_players_each_won_over_the_next_one(self):
        for games, players in few_and_more():
            row = row_through(games, players)
            self.assertIsInstance(row, list)
            self.assertEqual(sorted(row), list(range(players)))
            self.assertTrue(is_row(row, games), (games, row))


class Ring(unittest.TestCase):
    def check(self, games, players):
        told = ring_through(games, players)
        self.assertIsInstance(told, tuple)
        self.assertEqual(len(told), 2)
        self.assertIs(type(told[0]), bool)
        self.assertIsInstance(told[1], list)
        if told[0]:
            self.assertEqual(sorted(told[1]), list(range(players)))
            self.assertTrue(is_row(told[1] + told[1][:1], games), (games, told))
        else:
            self.assertTrue(rises(told[1]), told)
            others = [player for player in range(players) if player not in told[1]]
            self.assertTrue(0 < len(told[1]) < players)
            self.assertEqual(len(told[1]) + len(others), players)
            self.assertTrue(won_over_all(told[1], others, games), (games, told))
        return told[0]

    def test_told_by_hand(self):
        self.assertEqual(ring_through([(0, 1)], 2), (False, [0]))
        self.assertEqual(ring_through([(1, 0)], 2), (False, [1]))
        told = ring_through([(0, 1), (2, 0), (1, 2)], 3)
        self.assertIs(told[0], True)
        self.assertIn(told[1], ([0, 1, 2], [1, 2, 0], [2, 0, 1]))
        self.assertEqual(ring_through(RING_AHEAD, 4), (False, [0, 1, 2]))

    def test_few_players_against_all_rings(self):
        for players in range(2, 6):
            # A ring may be told from 0.
            rings = [(0,) + rest for rest in itertools.permutations(range(1, players))]
            for games in all_rounds(players):
                there = any(is_row(ring + ring[:1], games) for ring in rings)
                self.assertEqual(self.check(games, players), there)

    def test_more_players(self):
        told = []
        for players in range(2, 11):
            for games in some_rounds(players, 8, players):
                told.append(self.check(games, players))
                self.assertEqual(told[-1], not can_be_parted(range(players), games))
        self.assertGreater(told.count(True), 50)
        self.assertGreater(told.count(False), 50)

    def test_an_order_but_that_the_last_one_won_over_the_first(self):
        # Who stands in the middle can be joined by no one alone, only by the last and the first together.
        for players in range(3, 7):
            for order in itertools.permutations(range(players)):
                ends = {order[0], order[-1]}
                games = [pair[::-1] if set(pair) == ends else pair for pair in by_order(order)]
                self.assertIs(self.check(games, players), True)

    def test_one_player(self):
        self.assertRaises(BadRound, ring_through, [], 1)


class Pieces(unittest.TestCase):
    def check(self, games, players):
        told = pieces(games, players)
        self.assertIsInstance(told, list)
        self.assertEqual(sorted(player for piece in told for player in piece), list(range(players)))
        for at, piece in enumerate(told):
            self.assertGreater(len(piece), 0)
            self.assertTrue(rises(piece), told)
            self.assertFalse(can_be_parted(piece, games), (games, told))
            for later in told[at + 1:]:
                self.assertTrue(won_over_all(piece, later, games), (games, told))
        return len(told)

    def test_told_by_hand(self):
        self.assertEqual(pieces([], 1), [[0]])
        self.assertEqual(pieces([(0, 1)], 2), [[0], [1]])
        self.assertEqual(pieces([(1, 0)], 2), [[1], [0]])
        self.assertEqual(pieces([(0, 1), (2, 0), (1, 2)], 3), [[0, 1, 2]])
        self.assertEqual(pieces(RING_AHEAD, 4), [[0, 1, 2], [3]])
        self.assertEqual(pieces([pair[::-1] for pair in RING_AHEAD], 4), [[3], [0, 1, 2]])
        self.assertEqual(pieces(by_order([3, 1, 0, 2]), 4), [[3], [1], [0], [2]])

    def test_few_and_more_players(self):
        counts = {self.check(games, players) for games, players in few_and_more()}
        self.assertEqual(counts, set(range(1, 11)))

    def test_two_rings_one_ahead_of_the_other(self):
        # 1, 4, 2 go round, and so do 0, 5, 3; the former won over the latter.
        games = [(0, 5), (3, 0), (5, 3), (1, 4), (4, 2), (2, 1)]
        games += [(a, b) for a in (1, 2, 4) for b in (0, 3, 5)]
        self.assertEqual(pieces(sorted(games, key=sorted), 6), [[1, 2, 4], [0, 3, 5]])


class Kings(unittest.TestCase):
    def test_told_by_hand(self):
        self.assertEqual(kings([], 1), [0])
        self.assertEqual(kings([(0, 1)], 2), [0])
        self.assertEqual(kings([(1, 0)], 2), [1])
        self.assertEqual(kings([(0, 1), (2, 0), (1, 2)], 3), [0, 1, 2])
        self.assertEqual(kings(RING_AHEAD, 4), [0, 1, 2])
        # 3 won over 0 alone, and 0 over 1 and 2; but 2 won over 3 alone, who did not win over 1.
        self.assertEqual(kings([(0, 1), (0, 2), (3, 0), (1, 2), (1, 3), (2, 3)], 4), [0, 1, 3])

    def test_by_the_definition(self):
        for games, players in few_and_more():
            told = kings(games, players)
            self.assertTrue(rises(told))
            for one in range(players):
                king = all((one, other) in games
                           or any((one, each) in games and (each, other) in games for each in range(players))
                           for other in range(players) if other != one)
                self.assertEqual(one in told, king, (games, told))
            self.assertTrue(set(told) <= set(range(players)))


class Refused(unittest.TestCase):
    ASKS = (row_through, ring_through, pieces, kings)

    def test_what_is_no_round(self):
        for ask in self.ASKS:
            for at, games in enumerate(NO_ROUNDS):
                with self.subTest(ask=ask, at=at):
                    self.assertRaises(BadRound, ask, games, 3)

    def test_players_that_are_no_number_from_1_to_10(self):
        for ask in self.ASKS:
            for at, players in enumerate(NO_PLAYERS):
                with self.subTest(ask=ask, at=at):
                    self.assertRaises(BadRound, ask, [], players)
                    self.assertRaises(BadRound, ask, [(0, 1)], players)
            self.assertRaises(BadRound, ask, games_of(11), 11)

    def test_a_round_of_more_or_fewer_players(self):
        for ask in self.ASKS:
            for players in range(1, 10):
                self.assertRaises(BadRound, ask, games_of(players + 1), players)
                self.assertRaises(BadRound, ask, games_of(players), players + 1)
