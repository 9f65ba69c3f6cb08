"""What is promised over the whole program, asked of every function."""

import copy
import inspect
import itertools
import unittest

from playedall.answers import Answer
from playedall.errors import BadPlayer, BadRound, BadText, BadTurn, BadWins, RoundError, Unlike
from playedall.filling import filled, may_lead
from playedall.games import left_of, wins_of
from playedall.orders import fewest, upsets
from playedall.texts import read, written
from playedall.turning import only, rings, turned, turns
from playedall.walks import kings, pieces, ring_through, row_through
from tests.helper import NO_BEGUN, NO_LISTS, NO_NUMBERS, NO_PLAYERS, NO_ROUNDS, by_order, some_rounds

RING = [(0, 1), (2, 0), (1, 2)]
BACK = [(1, 0), (0, 2), (2, 1)]

BEGUN_ASKED = (wins_of, left_of, written)
ROUND_ASKED = (rings, only, row_through, ring_through, pieces, kings, fewest)

ARGUMENTS = {
    wins_of: ["begun", "players"], left_of: ["begun", "players"], filled: ["begun", "wins"],
    may_lead: ["begun", "players", "who"], turned: ["games", "players", "turn"], turns: ["one", "other", "players"],
    rings: ["games", "players"], only: ["games", "players"], row_through: ["games", "players"],
    ring_through: ["games", "players"], pieces: ["games", "players"], kings: ["games", "players"],
    upsets: ["games", "players", "order"], fewest: ["games", "players"], written: ["begun", "players"],
    read: ["text", "players"],
}

# For each function what is good together, and in the order in which it is looked at: at which argument lies what,
# and how it is refused.
REFUSALS = {
    filled: ((RING, [1, 1, 1]), [(1, BadWins, NO_LISTS + [[], [0] * 11, [3, 0, 0], [1, 1, True], [0, -1, 1]]),
                                 (0, BadRound, NO_BEGUN)]),
    may_lead: ((RING, 3, 0), [(0, BadRound, NO_BEGUN), (1, BadRound, NO_PLAYERS),
                              (2, BadPlayer, NO_NUMBERS + [-1, 3])]),
    turned: ((RING, 3, (0, 1, 2)), [(0, BadRound, NO_ROUNDS), (1, BadRound, NO_PLAYERS),
                                    (2, BadTurn, NO_NUMBERS + [(0, 2, 1), (0, 1, 3), (0, True, 2), [0, 1, 2]])]),
    turns: ((RING, BACK, 3), [(0, BadRound, NO_ROUNDS), (1, BadRound, NO_ROUNDS), (2, BadRound, NO_PLAYERS),
                              (0, Unlike, [by_order([0, 1, 2])]), (1, Unlike, [by_order([2, 1, 0])])]),
    upsets: ((RING, 3, [0, 1, 2]), [(0, BadRound, NO_ROUNDS), (1, BadRound, NO_PLAYERS),
                                    (2, BadPlayer, NO_LISTS + [[0, 1], [0, 1, 1], [0, True, 2], [0, 1, 3]])]),
    read: (("0>1 2>0", 3), [(1, BadRound, NO_PLAYERS),
                            (0, BadText, NO_LISTS[:5] + [b"0>1", " ", "0>1 ", "0>3", "0>2 0>1", ["0>1"]])]),
}
REFUSALS.update({ask: ((RING, 3), [(0, BadRound, NO_BEGUN), (1, BadRound, NO_PLAYERS)]) for ask in BEGUN_ASKED})
REFUSALS.update({ask: ((RING, 3), [(0, BadRound, NO_ROUNDS), (1, BadRound, NO_PLAYERS)]) for ask in ROUND_ASKED})


def each_call():
    """Every function with what may be handed to it, made anew for each walk."""
    begun = [(1, 0), (2, 3)]
    calls = [(ask, (begun, 4)) for ask in BEGUN_ASKED]
    calls += [(filled, (begun, wins)) for wins in ([1, 2, 2, 1], [3, 0, 2, 1], [0, 0, 0, 0])]
    calls += [(may_lead, (begun, 4, 0)), (may_lead, ([(1, 0), (2, 0), (3, 0)], 4, 0)), (may_lead, ([], 10, 9))]
    calls += [(turned, (RING, 3, (1, 2, 0))), (turns, (RING, BACK, 3)), (turns, (RING, RING, 3))]
    calls += [(turns, (some_rounds(9, 1, 9)[-1], filled([], [4] * 9).games, 9))]
    for players in (1, 2, 5, 8, 10):
        for games in some_rounds(players, 1, players):
            calls += [(ask, (games, players)) for ask in (rings, only, row_through, pieces, kings, written)]
            calls += [(ring_through, (games, players))] if players > 1 else []
            calls += [(fewest, (games, players))] if players < 9 else []
            calls += [(upsets, (games, players, list(range(players))[::-1])), (turns, (games, games, players))]
    calls += [(read, ("", 1)), (read, ("1>0 0>2", 3))]
    return [(ask, copy.deepcopy(handed)) for ask, handed in calls]


def picture(told):
    """What is told, as it stands now."""
    return (type(told), copy.deepcopy(vars(told))) if isinstance(told, Answer) else copy.deepcopy(told)


def spoil(value):
    """Changes whatever of it can be changed."""
    if isinstance(value, Answer):
        for held in list(vars(value).values()):
            spoil(held)
    elif isinstance(value, (list, tuple)):
        for held in value:
            spoil(held)
        if isinstance(value, list):
            value.clear()
            value.append("more")


class NothingIsKept(unittest.TestCase):
    def test_every_function_is_asked(self):
        self.assertEqual({ask for ask, _ in each_call()}, set(ARGUMENTS))
        self.assertEqual(set(REFUSALS), set(ARGUMENTS))

    def test_what_is_handed_in_stays_as_it_was(self):
        for ask, handed in each_call():
            before = copy.deepcopy(handed)
            ask(*handed)
            self.assertEqual(handed, before, ask)

    def test_what_is_told_is_spoilt_and_asked_again(self):
        for ask, handed in each_call():
            first = ask(*handed)
            second = ask(*handed)
            before = picture(first)
            self.assertEqual(picture(second), before, ask)
            spoil(first)
            self.assertEqual(picture(second), before, ask)
            self.assertEqual(picture(ask(*handed)), before, ask)

    def test_what_was_handed_in_is_spoilt(self):
        for ask, handed in each_call():
            again = copy.deepcopy(handed)
            told = ask(*handed)
            before = picture(told)
            spoil(handed)
            self.assertEqual(picture(told), before, ask)
            self.assertEqual(picture(ask(*again)), before, ask)

    def test_what_is_told_is_spoilt_and_what_was_handed_in_stays(self):
        for ask, handed in each_call():
            before = copy.deepcopy(handed)
            spoil(ask(*handed))
            self.assertEqual(handed, before, ask)

    def test_what_was_refused_stays_as_it_was(self):
        for ask, handed in ((turned, ([(0, 1)], 2, (0, 1, 0))), (turns, ([(0, 1)], [(1, 0)], 2)),
                            (upsets, ([(0, 1)], 2, [1, 1])), (filled, ([(1, 1)], [0, 1])), (kings, ([(1, 1)], 2))):
            before = copy.deepcopy(handed)
            self.assertRaises(RoundError, ask, *handed)
            self.assertEqual(handed, before, ask)


class Interface(unittest.TestCase):
    def test_arguments(self):
        for ask, names in ARGUMENTS.items():
            with self.subTest(ask=ask):
                self.assertEqual(list(inspect.signature(ask).parameters), names)
                good = REFUSALS[ask][0]
                self.assertEqual(picture(ask(**dict(zip(names, good)))), picture(ask(*good)))


class Refused(unittest.TestCase):
    def changed(self, good, changes):
        handed = list(good)
        for place, value in changes:
            handed[place] = value
        return handed

    def test_each_by_itself(self):
        for ask, (good, refusals) in REFUSALS.items():
            for place, refusal, values in refusals:
                for at, value in enumerate(values):
                    with self.subTest(ask=ask, place=place, at=at):
                        self.assertRaises(refusal, ask, *self.changed(good, [(place, value)]))

    def test_the_first_of_two(self):
        for ask, (good, refusals) in REFUSALS.items():
            for first, second in itertools.combinations(refusals, 2):
                if first[0] != second[0]:
                    for one, other in itertools.product(first[2], second[2]):
                        handed = self.changed(good, [(first[0], one), (second[0], other)])
                        self.assertRaises(first[1], ask, *handed)

    def test_the_good_ones_are_not_refused(self):
        for ask, (good, _) in REFUSALS.items():
            ask(*good)

    def test_true_and_false_are_no_numbers(self):
        for ask in BEGUN_ASKED + ROUND_ASKED:
            self.assertRaises(BadRound, ask, [], True)
            self.assertRaises(BadRound, ask, [], False)
            self.assertRaises(BadRound, ask, [(0, True)], 2)
            self.assertRaises(BadRound, ask, [(True, False)], 2)
            self.assertRaises(BadRound, ask, [(0, True), (0, 2), (True, 2)], 3)
        self.assertRaises(BadRound, may_lead, [], True, 0)
        self.assertRaises(BadPlayer, may_lead, [], 2, True)
        self.assertRaises(BadPlayer, may_lead, [], 2, False)
        self.assertRaises(BadWins, filled, [], [False])
        self.assertRaises(BadWins, filled, [(0, 1)], [True, False])
        self.assertRaises(BadRound, filled, [(False, True)], [1, 0])
        self.assertRaises(BadRound, turns, [], [], True)
        self.assertRaises(BadRound, turns, [(0, 1)], [(0, True)], 2)
        self.assertRaises(BadRound, turns, [(False, 1)], [(0, 1)], 2)
        self.assertRaises(BadTurn, turned, RING, 3, (False, True, 2))
        self.assertRaises(BadRound, turned, [(0, True), (2, 0), (1, 2)], 3, (0, 1, 2))
        self.assertRaises(BadRound, upsets, [], True, [0])
        self.assertRaises(BadPlayer, upsets, [], 1, [False])
        self.assertRaises(BadPlayer, upsets, [(0, 1)], 2, [False, True])
        self.assertRaises(BadRound, read, "", True)

    def test_begun_only(self):
        for players in range(2, 11):
            games = by_order(range(players))
            for ask in ROUND_ASKED:
                for left in range(len(games)):
                    self.assertRaises(BadRound, ask, games[:left] + games[left + 1:], players)
