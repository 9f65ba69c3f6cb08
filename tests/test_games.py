import unittest

from playedall.errors import BadRound
from playedall.games import left_of, wins_of
from tests.helper import NO_BEGUN, NO_PLAYERS, all_begun, count_wins, games_of, many_begun


def left_by_hand(begun, players):
    return [game for game in games_of(players) if game not in begun and game[::-1] not in begun]


class Wins(unittest.TestCase):
    def test_no_games(self):
        for players in range(1, 11):
            self.assertEqual(wins_of([], players), [0] * players)

    def test_some_games(self):
        self.assertEqual(wins_of([(1, 0), (2, 0), (1, 3)], 4), [0, 2, 1, 0])
        self.assertEqual(wins_of([(9, 8)], 10), [0] * 9 + [1])

    def test_all_games(self):
        for players in range(1, 11):
            self.assertEqual(wins_of(games_of(players), players), list(range(players - 1, -1, -1)))
        self.assertEqual(wins_of([(0, 1), (2, 0), (1, 2)], 3), [1, 1, 1])

    def test_every_begun_round_of_few_and_many_of_more(self):
        for players in range(1, 5):
            for begun in all_begun(players):
                self.assertEqual(wins_of(begun, players), count_wins(begun, players))
        for players in range(5, 11):
            for begun, _ in many_begun(players, 60, players):
                self.assertEqual(wins_of(begun, players), count_wins(begun, players))


class Left(unittest.TestCase):
    def test_no_games(self):
        for players in range(1, 11):
            self.assertEqual(left_of([], players), games_of(players))

    def test_some_games(self):
        self.assertEqual(left_of([(1, 0), (2, 0), (1, 3)], 4), [(0, 3), (1, 2), (2, 3)])
        self.assertEqual(left_of([(2, 1)], 3), [(0, 1), (0, 2)])

    def test_all_games(self):
        for players in range(1, 11):
            self.assertEqual(left_of([game[::-1] for game in games_of(players)], players), [])

    def test_every_begun_round_of_few_and_many_of_more(self):
        for players in range(1, 5):
            for begun in all_begun(players):
                self.assertEqual(left_of(begun, players), left_by_hand(begun, players))
        for players in range(5, 11):
            for begun, _ in many_begun(players, 60, players):
                self.assertEqual(left_of(begun, players), left_by_hand(begun, players))

    def test_pairs_are_tuples(self):
        for game in left_of([(0, 1)], 4):
            self.assertIsInstance(game, tuple)


class Refused(unittest.TestCase):
    def test_players_that_are_no_number_from_1_to_10(self):
        for ask in (wins_of, left_of):
            for at, players in enumerate(NO_PLAYERS):
                with self.subTest(ask=ask, at=at):
                    self.assertRaises(BadRound, ask, [], players)

    def test_what_is_no_begun_round(self):
        for ask in (wins_of, left_of):
            for at, begun in enumerate(NO_BEGUN):
                with self.subTest(ask=ask, at=at):
                    self.assertRaises(BadRound, ask, begun, 3)

    def test_both_wrong(self):
        for ask in (wins_of, left_of):
            self.assertRaises(BadRound, ask, None, None)

    def test_a_begun_round_of_more_players(self):
        for ask in (wins_of, left_of):
            for players in range(1, 10):
                with self.subTest(ask=ask, players=players):
                    self.assertRaises(BadRound, ask, [(0, players)], players)
                    self.assertRaises(BadRound, ask, [(players, 0)], players)
                    self.assertRaises(BadRound, ask, games_of(players + 1), players)
            self.assertRaises(BadRound, ask, [(0, 10)], 10)
            self.assertRaises(BadRound, ask, games_of(11), 11)

    def test_each_game_twice_either_way_round(self):
        for ask in (wins_of, left_of):
            for game in games_of(10):
                for again in (game, game[::-1]):
                    self.assertRaises(BadRound, ask, [game, again], 10)
                    self.assertRaises(BadRound, ask, [again, game], 10)

    def test_each_two_games_out_of_their_order(self):
        games = games_of(5)
        for ask in (wins_of, left_of):
            for at, game in enumerate(games):
                for later in games[at + 1:]:
                    for first in (later, later[::-1]):
                        for second in (game, game[::-1]):
                            self.assertRaises(BadRound, ask, [first, second], 5)


class NothingIsKept(unittest.TestCase):
    def test_what_is_handed_in_is_not_changed(self):
        for ask in (wins_of, left_of):
            begun = [(1, 0), (2, 0), (1, 3)]
            ask(begun, 4)
            self.assertEqual(begun, [(1, 0), (2, 0), (1, 3)])

    def test_what_was_answered_may_be_changed(self):
        for ask in (wins_of, left_of):
            begun = [(1, 0), (2, 0), (1, 3)]
            first = ask(begun, 4)
            before = list(first)
            first.clear()
            self.assertEqual(ask(begun, 4), before)
            first.extend(["more"] * 9)
            self.assertEqual(ask(begun, 4), before)

    def test_what_was_handed_in_may_be_changed(self):
        begun = [(0, 1)]
        wins, left = wins_of(begun, 3), left_of(begun, 3)
        begun[0] = (1, 0)
        begun.append((0, 2))
        self.assertEqual((wins, left), ([1, 0, 0], [(0, 2), (1, 2)]))
        self.assertEqual((wins_of(begun, 3), left_of(begun, 3)), ([1, 1, 0], [(1, 2)]))
