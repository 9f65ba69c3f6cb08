import collections
import itertools
import random
import unittest

from playedall.errors import BadRound, BadTurn, Unlike
from playedall.filling import filled
from playedall.turning import only, rings, turned, turns
from tests.helper import (NO_NUMBERS, NO_PLAYERS, NO_ROUNDS, all_rounds, by_order, count_wins, games_of, in_a_ring,
                          is_round, some_rounds, threes_of)

# 0 won over 1, 1 over 2, 2 over 0.
RING = [(0, 1), (2, 0), (1, 2)]

NO_TURNS = NO_NUMBERS + [
    (0, 2, 1), (2, 1, 0), (1, 0, 2), [0, 1, 2], "012", b"012", {0: 1, 1: 2, 2: 0}, {0, 1, 2}, range(3), iter((0, 1, 2)),
    (), (0,), (0, 1), (0, 1, 2, 0), (0, 1, 2, 3), (0, 1, 2, 0, 1, 2), ((0, 1, 2),), ((0, 1), (1, 2), (2, 0)),
    (0, 0, 0), (1, 1, 1), (0, 0, 1), (0, 1, 0), (0, 1, 1), (1, 0, 0), (2, 2, 0), (0, 1, 3), (3, 1, 2), (0, -2, 2),
    (-3, 1, 2), (-1, 0, 1), (0, 1, -1), (0, 10 ** 5000, 2), (-10 ** 5000, 1, 2),
    (0, True, 2), (False, 1, 2), (True, 2, 0), (False, True, 2), (2, False, True), (1, 2, False),
] + [(0, 1, value) for value in NO_NUMBERS] + [(value, 1, 2) for value in NO_NUMBERS]


def turned_by_hand(games, turn):
    a, b, c = turn
    return [pair[::-1] if pair in ((a, b), (b, c), (c, a)) else pair for pair in games]


class Turned(unittest.TestCase):
    def test_told_by_hand(self):
        self.assertEqual(turned(RING, 3, (0, 1, 2)), [(1, 0), (0, 2), (2, 1)])
        self.assertEqual(turned([(1, 0), (0, 2), (2, 1)], 3, (0, 2, 1)), RING)
        self.assertEqual(turned([(0, 1), (2, 0), (0, 3), (1, 2), (1, 3), (3, 2)], 4, (2, 0, 1)),
                         [(1, 0), (0, 2), (0, 3), (2, 1), (1, 3), (3, 2)])

    def test_the_three_may_be_told_from_each_of_them(self):
        for turn in ((0, 1, 2), (1, 2, 0), (2, 0, 1)):
            self.assertEqual(turned(RING, 3, turn), [(1, 0), (0, 2), (2, 1)])

    def test_just_the_three_games_and_no_wins(self):
        done = 0
        for players in range(1, 11):
            for games in some_rounds(players, 4, players):
                before = list(games)
                for turn in threes_of(games, players):
                    told = turned(games, players, turn)
                    self.assertEqual(told, turned_by_hand(games, turn))
                    self.assertTrue(is_round(told, players))
                    self.assertEqual(count_wins(told, players), count_wins(games, players))
                    done += 1
                self.assertEqual(games, before)
        self.assertGreater(done, 1000)

    def test_turned_back(self):
        for games in some_rounds(7, 3, 7):
            for a, b, c in threes_of(games, 7):
                self.assertEqual(turned(turned(games, 7, (a, b, c)), 7, (c, b, a)), games)

    def test_the_round_that_was_handed_in_stays(self):
        games = list(RING)
        told = turned(games, 3, (0, 1, 2))
        told.clear()
        self.assertEqual(games, RING)
        self.assertEqual(turned(games, 3, (0, 1, 2)), [(1, 0), (0, 2), (2, 1)])

    def test_what_is_no_turn(self):
        for at, turn in enumerate(NO_TURNS):
            with self.subTest(at=at):
                self.assertRaises(BadTurn, turned, RING, 3, turn)

    def test_every_other_three_is_no_turn(self):
        for players in range(1, 7):
            for games in some_rounds(players, 2, players):
                there = threes_of(games, players)
                for turn in itertools.product(range(-1, players + 1), repeat=3):
                    if turn not in there:
                        self.assertRaises(BadTurn, turned, games, players, turn)

    def test_a_round_is_looked_at_first(self):
        for at, turn in enumerate(NO_TURNS):
            with self.subTest(at=at):
                self.assertRaises(BadRound, turned, RING[:2], 3, turn)
                self.assertRaises(BadRound, turned, RING, 4, turn)
                self.assertRaises(BadRound, turned, None, None, turn)

    def test_what_is_no_round(self):
        for at, games in enumerate(NO_ROUNDS):
            with self.subTest(at=at):
                self.assertRaises(BadRound, turned, games, 3, (0, 1, 2))

    def test_a_round_that_is_only_begun(self):
        # The three games are there, but another one is left.
        self.assertRaises(BadRound, turned, [(0, 1), (2, 0), (0, 3), (1, 2), (1, 3)], 4, (0, 1, 2))
        self.assertRaises(BadRound, turned, RING, 4, (0, 1, 2))

    def test_players_that_are_no_number_from_1_to_10(self):
        for at, players in enumerate(NO_PLAYERS):
            with self.subTest(at=at):
                self.assertRaises(BadRound, turned, RING, players, (0, 1, 2))
                self.assertRaises(BadRound, turned, [], players, (0, 1, 2))


class Turns(unittest.TestCase):
    def check(self, one, other, players):
        row = turns(one, other, players)
        self.assertIsInstance(row, list)
        self.assertLessEqual(len(row), len(games_of(players)))
        games = one
        for turn in row:
            self.assertIsInstance(turn, tuple)
            games = turned(games, players, turn)
        self.assertEqual(games, other)
        self.assertEqual(turns(list(one), list(other), players), row)
        return row

    def test_told_by_hand(self):
        self.assertIn(turns(RING, [(1, 0), (0, 2), (2, 1)], 3), ([(0, 1, 2)], [(1, 2, 0)], [(2, 0, 1)]))
        self.assertEqual(turns([(0, 1)], [(0, 1)], 2), [])

    def test_from_a_round_to_itself(self):
        for players in range(1, 11):
            for games in some_rounds(players, 3, players):
                self.check(games, list(games), players)
                self.check(games, games, players)

    def test_few_players_from_each_round_to_each(self):
        for players in range(1, 5):
            for one, other in itertools.product(all_rounds(players), repeat=2):
                if count_wins(one, players) == count_wins(other, players):
                    self.check(one, other, players)
                else:
                    self.assertRaises(Unlike, turns, one, other, players)

    def test_five_players_from_each_round_to_each_of_the_same_wins(self):
        alike = collections.defaultdict(list)
        for games in all_rounds(5):
            alike[tuple(count_wins(games, 5))].append(games)
        for rounds in alike.values():
            for one, other in itertools.product(rounds, repeat=2):
                self.check(one, other, 5)

    def test_more_players_by_turns_drawn(self):
        chance = random.Random(6)
        longest = 0
        for players in range(3, 11):
            for one in some_rounds(players, 8, players):
                other = one
                for _ in range(chance.choice((1, 3, 10, 40))):
                    there = threes_of(other, players)
                    if there:
                        other = turned_by_hand(other, chance.choice(there))
                longest = max(longest, len(self.check(one, other, players)))
                self.check(other, one, players)
        self.assertGreater(longest, 8)

    def test_more_players_to_a_round_filled(self):
        for players in range(1, 11):
            for one in some_rounds(players, 4, 20 + players):
                other = filled([], count_wins(one, players)).games
                self.check(one, other, players)

    def test_every_game_the_other_way_round(self):
        chance = random.Random(8)
        for players in (1, 3, 5, 7, 9):
            one = in_a_ring(players, chance)
            self.check(one, [pair[::-1] for pair in one], players)

    def test_other_wins(self):
        for players in range(2, 11):
            rounds = some_rounds(players, 4, 40 + players)
            for one, other in itertools.product(rounds, repeat=2):
                if count_wins(one, players) != count_wins(other, players):
                    self.assertRaises(Unlike, turns, one, other, players)

    def test_other_wins_though_as_many_of_each(self):
        self.assertRaises(Unlike, turns, by_order([0, 1]), by_order([1, 0]), 2)
        self.assertRaises(Unlike, turns, by_order([0, 1, 2]), by_order([2, 0, 1]), 3)

    def test_what_is_no_round(self):
        for at, games in enumerate(NO_ROUNDS):
            with self.subTest(at=at):
                self.assertRaises(BadRound, turns, games, RING, 3)
                self.assertRaises(BadRound, turns, RING, games, 3)
                self.assertRaises(BadRound, turns, games, games, 3)
                # Ahead of other wins.
                self.assertRaises(BadRound, turns, by_order([0, 1, 2]), games, 3)

    def test_players_that_are_no_number_from_1_to_10(self):
        for at, players in enumerate(NO_PLAYERS):
            with self.subTest(at=at):
                self.assertRaises(BadRound, turns, [], [], players)
                self.assertRaises(BadRound, turns, RING, RING, players)


class Rings(unittest.TestCase):
    def check(self, games, players):
        count = rings(games, players)
        self.assertIs(type(count), int)
        self.assertEqual(count, len(threes_of(games, players)) // 3)
        self.assertIs(only(games, players), count == 0)

    def test_told_by_hand(self):
        self.assertEqual(rings(RING, 3), 1)
        self.assertEqual(rings([(1, 0), (0, 2), (2, 1)], 3), 1)
        self.assertIs(only(RING, 3), False)
        self.assertEqual(rings(by_order([2, 0, 1]), 3), 0)
        self.assertIs(only(by_order([2, 0, 1]), 3), True)
        self.assertEqual((rings([], 1), only([], 1)), (0, True))
        self.assertEqual((rings([(1, 0)], 2), only([(1, 0)], 2)), (0, True))

    def test_few_players_three_by_three(self):
        for players in range(1, 6):
            for games in all_rounds(players):
                self.check(games, players)

    def test_more_players_three_by_three(self):
        for players in range(1, 11):
            for games in some_rounds(players, 8, players):
                self.check(games, players)

    def test_only_against_all_rounds(self):
        for players in range(1, 6):
            rounds = all_rounds(players)
            times = collections.Counter(tuple(count_wins(games, players)) for games in rounds)
            for games in rounds:
                self.assertIs(only(games, players), times[tuple(count_wins(games, players))] == 1)

    def test_orders_have_none(self):
        for players in range(1, 11):
            self.assertEqual(rings(by_order(range(players)), players), 0)
            self.assertIs(only(by_order(range(players)[::-1]), players), True)

    def test_what_is_no_round(self):
        for ask in (rings, only):
            for at, games in enumerate(NO_ROUNDS):
                with self.subTest(ask=ask, at=at):
                    self.assertRaises(BadRound, ask, games, 3)

    def test_players_that_are_no_number_from_1_to_10(self):
        for ask in (rings, only):
            for at, players in enumerate(NO_PLAYERS):
                with self.subTest(ask=ask, at=at):
                    self.assertRaises(BadRound, ask, [], players)
            self.assertRaises(BadRound, ask, games_of(11), 11)
