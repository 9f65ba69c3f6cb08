import itertools
import unittest

from playedall.answers import Round, Sum, Weak
from playedall.errors import BadRound, BadWins
from playedall.filling import filled
from tests.helper import (NO_BEGUN, NO_LISTS, NO_NUMBERS, all_begun, all_rounds, completed, count_left, count_wins,
                          games_of, is_round, keeps, many_begun, rises)

NO_WINS = NO_LISTS + [
    [], [1], [-1], [0] * 11, [5] * 11, list(range(11)), [0] * 1000, [0, 2], [-1, 1], [3, 0, 0], [0, 1, 3], [0, 3, -1],
    [0, 1, 10], [10 ** 5000, 0, 0], [-10 ** 5000, 0, 0], [10] + [5] * 9, [5] * 9 + [-1], (1, 1, 1), "111",
    [True, 1, 1], [1, 1, True], [0, False, 1], [False], [True],
] + [[1, 1, value] for value in NO_NUMBERS] + [[value] for value in NO_NUMBERS]


def all_wins(players):
    return [list(wins) for wins in itertools.product(range(players), repeat=players)]


def shifted(wins, chance):
    """Wins with the same sum, some moved from one player to another."""
    wins = list(wins)
    for _ in range(chance.randrange(4)):
        one, other = chance.randrange(len(wins)), chance.randrange(len(wins))
        if wins[one] > 0 and wins[other] < len(wins) - 1:
            wins[one] -= 1
            wins[other] += 1
    return wins


class Checks(unittest.TestCase):
    def check(self, begun, wins):
        """That what is told is so; answers the kind that was told."""
        players = len(wins)
        answer = filled(begun, wins)
        if sum(wins) != len(games_of(players)):
            self.assertIs(type(answer), Sum)
        elif type(answer) is Round:
            self.assertTrue(is_round(answer.games, players), answer.games)
            self.assertTrue(keeps(answer.games, begun), (begun, answer.games))
            self.assertEqual(count_wins(answer.games, players), wins)
        else:
            self.assertIs(type(answer), Weak)
            self.assertTrue(rises(answer.some), answer.some)
            self.assertTrue(set(answer.some) <= set(range(players)), answer.some)
            have = count_wins(begun, players)
            asked = sum(wins[player] for player in answer.some)
            self.assertLess(asked, sum(have[player] for player in answer.some) + count_left(begun, answer.some))
        return type(answer)


class Filled(Checks):
    def test_told_by_hand(self):
        self.assertEqual(filled([], [0]).games, [])
        self.assertEqual(filled([(1, 0)], [0, 1]).games, [(1, 0)])
        self.assertEqual(filled([], [2, 1, 0]).games, [(0, 1), (0, 2), (1, 2)])
        self.assertEqual(filled([(2, 0)], [1, 1, 1]).games, [(0, 1), (2, 0), (1, 2)])
        self.assertIs(type(filled([], [1, 1, 0])), Sum)
        self.assertIs(type(filled([], [2, 2, 2])), Sum)
        self.assertEqual(filled([(1, 0)], [1, 0]).some, [1])
        self.assertEqual(filled([], [0, 0, 3, 3]).some, [0, 1])

    def test_a_sum_comes_ahead_of_weak_players(self):
        self.assertIs(type(filled([(0, 1), (0, 2)], [0, 1, 1])), Sum)
        self.assertIs(type(filled([(0, 1), (0, 2), (1, 2)], [0, 0, 0])), Sum)

    def test_few_players_against_all_rounds(self):
        for players in range(1, 5):
            rounds = [(each, tuple(count_wins(each, players))) for each in all_rounds(players)]
            for begun in all_begun(players):
                there = {wins for each, wins in rounds if keeps(each, begun)}
                for wins in all_wins(players):
                    told = self.check(begun, wins)
                    self.assertEqual(told is Round, tuple(wins) in there, (begun, wins))

    def test_five_players_against_all_rounds(self):
        rounds = [(each, tuple(count_wins(each, 5))) for each in all_rounds(5)]
        asked = [wins for wins in all_wins(5) if sum(wins) == 10]
        for begun, _ in many_begun(5, 60, 5):
            there = {wins for each, wins in rounds if keeps(each, begun)}
            for wins in asked:
                told = self.check(begun, wins)
                self.assertEqual(told is Round, tuple(wins) in there, (begun, wins))

    def test_wins_that_there_are_of_more_players(self):
        for players in range(5, 11):
            for begun, chance in many_begun(players, 80, players):
                wins = count_wins(completed(begun, players, chance), players)
                self.assertIs(self.check(begun, wins), Round)

    def test_other_wins_of_more_players(self):
        told = []
        for players in range(5, 11):
            for begun, chance in many_begun(players, 150, 100 + players):
                wins = count_wins(completed(begun, players, chance), players)
                told.append(self.check(begun, shifted(wins, chance)))
                chance.shuffle(wins)
                told.append(self.check(begun, wins))
                told.append(self.check(begun, [chance.randrange(players) for _ in range(players)]))
        for kind in (Round, Sum, Weak):
            self.assertGreater(told.count(kind), 50)

    def test_ten_players_without_a_game(self):
        self.assertIs(self.check([], list(range(10))), Round)
        self.assertIs(self.check([], list(range(9, -1, -1))), Round)
        self.assertIs(self.check([], [5, 4] * 5), Round)
        self.assertIs(self.check([], [0, 0, 1, 9, 6, 6, 6, 6, 6, 5]), Weak)
        self.assertIs(self.check([], [9, 9] + [4, 4, 4, 3, 3, 3, 3, 3]), Weak)

    def test_ten_players_with_all_games(self):
        games = games_of(10)
        self.assertEqual(filled(games, list(range(9, -1, -1))).games, games)
        self.assertIs(self.check(games, list(range(10))), Weak)

    def test_one_player(self):
        self.assertIs(self.check([], [0]), Round)


class Refused(unittest.TestCase):
    def test_what_are_no_wins(self):
        for at, wins in enumerate(NO_WINS):
            with self.subTest(at=at):
                self.assertRaises(BadWins, filled, [], wins)

    def test_wins_are_looked_at_first(self):
        for at, wins in enumerate(NO_WINS):
            with self.subTest(at=at):
                self.assertRaises(BadWins, filled, None, wins)
                self.assertRaises(BadWins, filled, [(0, 0)], wins)

    def test_what_is_no_begun_round(self):
        for at, begun in enumerate(NO_BEGUN):
            with self.subTest(at=at):
                self.assertRaises(BadRound, filled, begun, [1, 1, 1])

    def test_a_begun_round_is_looked_at_ahead_of_the_sum(self):
        self.assertRaises(BadRound, filled, [(0, 3)], [0, 0, 0])
        self.assertRaises(BadRound, filled, None, [0, 0])

    def test_a_begun_round_of_more_players_than_wins(self):
        for players in range(1, 11):
            self.assertRaises(BadRound, filled, [(0, players)], list(range(players)))


class NothingIsKept(unittest.TestCase):
    ASKED = [([(1, 0), (2, 3)], [1, 2, 2, 1]), ([(1, 0)], [3, 0, 2, 1]), ([], [0, 0, 3, 3]), ([(1, 0)], [0, 0, 0])]

    def test_what_is_handed_in_is_not_changed(self):
        for begun, wins in self.ASKED:
            handed, asked = list(begun), list(wins)
            filled(handed, asked)
            self.assertEqual((handed, asked), (begun, wins))

    def test_what_was_answered_may_be_changed(self):
        for begun, wins in self.ASKED:
            first = filled(begun, wins)
            before = {name: list(value) for name, value in vars(first).items()}
            for value in vars(first).values():
                value.clear()
                value.append("more")
            self.assertEqual(vars(filled(begun, wins)), before)

    def test_what_was_handed_in_may_be_changed(self):
        for begun, wins in self.ASKED:
            handed, asked = list(begun), list(wins)
            first = filled(handed, asked)
            before = {name: list(value) for name, value in vars(first).items()}
            handed.clear()
            asked.clear()
            self.assertEqual(vars(first), before)
            self.assertEqual(vars(filled(begun, wins)), before)
