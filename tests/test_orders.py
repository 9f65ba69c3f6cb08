import itertools
import random
import unittest

from playedall.errors import BadPlayer, BadRound
from playedall.orders import fewest, upsets
from tests.helper import (NO_LISTS, NO_NUMBERS, NO_PLAYERS, NO_ROUNDS, all_rounds, by_order, games_of, shuffled,
                          some_rounds)

RING = [(0, 1), (2, 0), (1, 2)]

NO_ORDERS = NO_LISTS + [
    (0, 1, 2), "012", range(3), {0: 0, 1: 1, 2: 2}, {0, 1, 2}, iter([0, 1, 2]), [[0, 1, 2]], [(0, 1, 2)],
    [], [0], [0, 1], [1, 2], [0, 1, 2, 3], [0, 1, 2, 0], [0, 1, 2, 2], [0, 0, 1, 2], [0, 1, 1], [0, 0, 0], [2, 2, 1],
    [0, 1, 3], [1, 2, 3], [-1, 0, 1], [0, 1, -1], [0, 1, 10 ** 5000], [-10 ** 5000, 1, 2],
    [False, 1, 2], [0, True, 2], [2, True, False], [0, 1, True],
] + [[0, 1, value] for value in NO_NUMBERS] + [[value, 1, 2] for value in NO_NUMBERS] + [
    [0, value, 2] for value in NO_NUMBERS]


def count_upsets(games, order):
    count = 0
    for earlier, later in itertools.combinations(order, 2):
        if (later, earlier) in games:
            count += 1
    return count


def fewest_by_hand(games, players):
    # The orders come in the order of lists, and of equal ones min takes the first.
    orders = map(list, itertools.permutations(range(players)))
    won = set(games)
    return min(((count_upsets(won, order), order) for order in orders), key=lambda told: told[0])


class Upsets(unittest.TestCase):
    def test_told_by_hand(self):
        self.assertEqual(upsets([], 1, [0]), 0)
        self.assertEqual(upsets([(0, 1)], 2, [0, 1]), 0)
        self.assertEqual(upsets([(0, 1)], 2, [1, 0]), 1)
        self.assertEqual(upsets(RING, 3, [0, 1, 2]), 1)
        self.assertEqual(upsets(RING, 3, [2, 1, 0]), 2)
        self.assertEqual(upsets(by_order([3, 1, 0, 2]), 4, [3, 1, 0, 2]), 0)
        self.assertEqual(upsets(by_order([3, 1, 0, 2]), 4, [2, 0, 1, 3]), 6)

    def test_few_players_in_every_order(self):
        for players in range(1, 5):
            for games in all_rounds(players):
                for order in itertools.permutations(range(players)):
                    told = upsets(games, players, list(order))
                    self.assertIs(type(told), int)
                    self.assertEqual(told, count_upsets(games, order))

    def test_up_to_ten_players(self):
        chance = random.Random(12)
        for players in range(1, 11):
            for games in some_rounds(players, 8, players):
                for _ in range(5):
                    order = shuffled(players, chance)
                    told = upsets(games, players, order)
                    self.assertEqual(told, count_upsets(games, order))
                    self.assertEqual(upsets(games, players, order[::-1]), len(games_of(players)) - told)

    def test_what_is_no_order(self):
        for at, order in enumerate(NO_ORDERS):
            with self.subTest(at=at):
                self.assertRaises(BadPlayer, upsets, RING, 3, order)

    def test_a_round_is_looked_at_first(self):
        for at, order in enumerate(NO_ORDERS):
            with self.subTest(at=at):
                self.assertRaises(BadRound, upsets, RING[:2], 3, order)
                self.assertRaises(BadRound, upsets, RING, 4, order)
                self.assertRaises(BadRound, upsets, None, None, order)

    def test_an_order_of_other_players(self):
        for players in range(1, 11):
            games = games_of(players)
            self.assertRaises(BadPlayer, upsets, games, players, list(range(players + 1)))
            self.assertRaises(BadPlayer, upsets, games, players, list(range(players - 1)))
            self.assertRaises(BadPlayer, upsets, games, players, list(range(1, players + 1)))
            self.assertRaises(BadPlayer, upsets, games, players, list(range(-1, players - 1)))

    def test_what_is_no_round(self):
        for at, games in enumerate(NO_ROUNDS):
            with self.subTest(at=at):
                self.assertRaises(BadRound, upsets, games, 3, [0, 1, 2])

    def test_players_that_are_no_number_from_1_to_10(self):
        for at, players in enumerate(NO_PLAYERS):
            with self.subTest(at=at):
                self.assertRaises(BadRound, upsets, [], players, [0])
                self.assertRaises(BadRound, upsets, RING, players, [0, 1, 2])


class Fewest(unittest.TestCase):
    def check(self, games, players):
        told = fewest(games, players)
        self.assertIsInstance(told, tuple)
        self.assertIs(type(told[0]), int)
        self.assertIsInstance(told[1], list)
        self.assertEqual(told, fewest_by_hand(games, players), games)

    def test_told_by_hand(self):
        self.assertEqual(fewest([], 1), (0, [0]))
        self.assertEqual(fewest([(0, 1)], 2), (0, [0, 1]))
        self.assertEqual(fewest([(1, 0)], 2), (0, [1, 0]))
        self.assertEqual(fewest(RING, 3), (1, [0, 1, 2]))
        # 0 won over 2, 2 over 1, 1 over 0: of the three orders with one upset the first.
        self.assertEqual(fewest([(1, 0), (0, 2), (2, 1)], 3), (1, [0, 2, 1]))

    def test_by_an_order_it_is_that_one(self):
        for players in range(1, 7):
            for order in itertools.permutations(range(players)):
                self.assertEqual(fewest(by_order(order), players), (0, list(order)))

    def test_few_players_against_all_orders(self):
        for players in range(1, 6):
            for games in all_rounds(players):
                self.check(games, players)

    def test_six_and_seven_players_against_all_orders(self):
        for games in some_rounds(6, 12, 6):
            self.check(games, 6)
        for games in some_rounds(7, 2, 7):
            self.check(games, 7)

    def test_eight_players_against_all_orders(self):
        for games in some_rounds(8, 1, 8)[3:]:
            self.check(games, 8)

    def test_eight_players_are_answered(self):
        for games in some_rounds(8, 10, 80):
            told = fewest(games, 8)
            self.assertEqual(told[0], count_upsets(games, told[1]))
            self.assertEqual(sorted(told[1]), list(range(8)))

    def test_more_than_eight_players(self):
        for players in (9, 10):
            for games in some_rounds(players, 2, players):
                self.assertRaises(BadRound, fewest, games, players)
            self.assertRaises(BadRound, fewest, [], players)
        self.assertRaises(BadRound, fewest, games_of(11), 11)

    def test_what_is_no_round(self):
        for at, games in enumerate(NO_ROUNDS):
            with self.subTest(at=at):
                self.assertRaises(BadRound, fewest, games, 3)

    def test_players_that_are_no_number_from_1_to_10(self):
        for at, players in enumerate(NO_PLAYERS):
            with self.subTest(at=at):
                self.assertRaises(BadRound, fewest, [], players)
                self.assertRaises(BadRound, fewest, RING, players)
