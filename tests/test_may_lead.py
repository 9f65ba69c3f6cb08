import unittest

from playedall.answers import Rivals, Round
from playedall.errors import BadPlayer, BadRound
from playedall.filling import may_lead
from tests.helper import (NO_BEGUN, NO_NUMBERS, NO_PLAYERS, all_begun, all_rounds, count_left, count_wins, games_of,
                          is_round, keeps, many_begun, rises)

NO_ONE = NO_NUMBERS + [-1, 3, 4, 10, 10 ** 5000, -10 ** 5000]


class Checks(unittest.TestCase):
    def check(self, begun, players, who):
        """That what is told is so; answers the kind that was told."""
        answer = may_lead(begun, players, who)
        if type(answer) is Round:
            self.assertTrue(is_round(answer.games, players), answer.games)
            self.assertTrue(keeps(answer.games, begun), (begun, answer.games))
            wins = count_wins(answer.games, players)
            self.assertEqual(wins[who], max(wins))
        else:
            self.assertIs(type(answer), Rivals)
            self.assertTrue(rises(answer.some), answer.some)
            self.assertTrue(set(answer.some) <= set(range(players)) - {who}, answer.some)
            have = count_wins(begun, players)
            lost = sum(1 for pair in begun if pair[1] == who)
            most = players - 1 - lost
            together = sum(have[player] for player in answer.some) + count_left(begun, answer.some)
            self.assertGreater(together, most * len(answer.some))
        return type(answer)


def leaders(rounds, begun):
    """Who comes first in one of these rounds that keeps the begun games."""
    first = set()
    for games, wins in rounds:
        if keeps(games, begun):
            first |= {player for player, count in enumerate(wins) if count == max(wins)}
    return first


class MayLead(Checks):
    def test_told_by_hand(self):
        self.assertEqual(may_lead([], 1, 0).games, [])
        self.assertEqual(may_lead([], 2, 1).games, [(1, 0)])
        self.assertEqual(may_lead([(0, 1)], 2, 1).some, [0])
        self.assertEqual(may_lead([(0, 1)], 3, 1).games, [(0, 1), (2, 0), (1, 2)])
        self.assertEqual(may_lead([(1, 0), (2, 0), (3, 0)], 4, 3).games[:3], [(1, 0), (2, 0), (3, 0)])

    def test_rivals_who_are_none_alone(self):
        # Player 4 can have 1 at most. Of 0, 1, 2 each has just 1, but the games among them are left.
        begun = [(0, 4), (1, 4), (2, 4), (4, 3)]
        self.assertIs(self.check(begun, 5, 4), Rivals)
        self.assertGreater(len(may_lead(begun, 5, 4).some), 1)

    def test_few_players_against_all_rounds(self):
        for players in range(1, 5):
            rounds = [(each, count_wins(each, players)) for each in all_rounds(players)]
            for begun in all_begun(players):
                there = leaders(rounds, begun)
                for who in range(players):
                    told = self.check(begun, players, who)
                    self.assertEqual(told is Round, who in there, (begun, who))

    def test_five_players_against_all_rounds(self):
        rounds = [(each, count_wins(each, 5)) for each in all_rounds(5)]
        for begun, _ in many_begun(5, 400, 5):
            there = leaders(rounds, begun)
            for who in range(5):
                told = self.check(begun, 5, who)
                self.assertEqual(told is Round, who in there, (begun, who))

    def test_more_players(self):
        told = []
        for players in range(6, 11):
            for begun, _ in many_begun(players, 150, players):
                told.extend(self.check(begun, players, who) for who in range(players))
        for kind in (Round, Rivals):
            self.assertGreater(told.count(kind), 500)

    def test_no_game_yet(self):
        for players in range(1, 11):
            for who in range(players):
                self.assertIs(self.check([], players, who), Round)

    def test_all_games(self):
        for players in range(2, 11):
            games = games_of(players)
            self.assertEqual(may_lead(games, players, 0).games, games)
            for who in range(1, players):
                self.assertIs(self.check(games, players, who), Rivals)

    def test_one_who_lost_all(self):
        for players in range(2, 11):
            begun = [(0, who) for who in range(1, players)]
            self.assertIs(self.check(begun, players, 0), Round)
            lost = [(who, 0) for who in range(1, players)]
            self.assertIs(self.check(lost, players, 0), Rivals)


class Refused(unittest.TestCase):
    def test_players_that_are_no_number_from_1_to_10(self):
        for at, players in enumerate(NO_PLAYERS):
            with self.subTest(at=at):
                self.assertRaises(BadRound, may_lead, [], players, 0)

    def test_what_is_no_begun_round(self):
        for at, begun in enumerate(NO_BEGUN):
            with self.subTest(at=at):
                self.assertRaises(BadRound, may_lead, begun, 3, 0)

    def test_a_round_is_looked_at_first(self):
        for at, who in enumerate(NO_ONE):
            with self.subTest(at=at):
                self.assertRaises(BadRound, may_lead, [(0, 0)], 3, who)
                self.assertRaises(BadRound, may_lead, [], 11, who)
                self.assertRaises(BadRound, may_lead, None, None, who)

    def test_what_is_no_player(self):
        for at, who in enumerate(NO_ONE):
            with self.subTest(at=at):
                self.assertRaises(BadPlayer, may_lead, [(0, 1)], 3, who)

    def test_one_more_than_the_last_player(self):
        for players in range(1, 11):
            self.assertRaises(BadPlayer, may_lead, [], players, players)
            self.assertRaises(BadPlayer, may_lead, [], players, -1)


class NothingIsKept(unittest.TestCase):
    ASKED = [([(1, 0), (2, 3)], 4, 0), ([(1, 0), (2, 0), (3, 0)], 4, 0), ([], 10, 9)]

    def test_what_is_handed_in_is_not_changed(self):
        for begun, players, who in self.ASKED:
            handed = list(begun)
            may_lead(handed, players, who)
            self.assertEqual(handed, begun)

    def test_what_was_answered_may_be_changed(self):
        for begun, players, who in self.ASKED:
            first = may_lead(begun, players, who)
            before = {name: list(value) for name, value in vars(first).items()}
            for value in vars(first).values():
                value.clear()
                value.append("more")
            self.assertEqual(vars(may_lead(begun, players, who)), before)

    def test_what_was_handed_in_may_be_changed(self):
        for begun, players, who in self.ASKED:
            handed = list(begun)
            first = may_lead(handed, players, who)
            before = {name: list(value) for name, value in vars(first).items()}
            handed.clear()
            self.assertEqual(vars(first), before)
            self.assertEqual(vars(may_lead(begun, players, who)), before)
