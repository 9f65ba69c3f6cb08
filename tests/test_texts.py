import itertools
import re
import unittest

from playedall.errors import BadRound, BadText
from playedall.texts import read, written
from tests.helper import NO_BEGUN, NO_NUMBERS, NO_PLAYERS, Unfriendly, all_begun, games_of, many_begun, some_rounds

NO_TEXTS = [value for value in NO_NUMBERS if not isinstance(value, str)] + [
    0, 1, 10 ** 5000, b"", b"0>1", bytearray(b"0>1"), ["0>1"], ("0>1",), {"0>1": 1}, [(0, 1)], [], str, Unfriendly()]

# Texts that are not written so, for three players.
OTHER_TEXTS = [
    " ", "  ", " 0>1", "0>1 ", "0>1  0>2", "0>1 0>2 ", " 0>1 0>2", "0> 1", "0 >1", "0 > 1", "0>10>2", "0>1,0>2",
    "0>1\t0>2", "0>1\n0>2", "0>1\n", "\n", "\t", "\n0>1", "0>1\r", "0>1\x0b0>2", "0>1\x0c0>2", "0>1\x000>2", "\x00",
    "0<1", "0-1", "0=1", "0>>1", "0->1", "01", "0>", ">1", ">", "0", "0>1>2", "0>1 >", "a>b", "x", "0>x", "None",
    "0>0", "1>1", "2>2", "0>3", "3>0", "9>0", "0>9", "10>1", "1>10", "00>1", "0>01", "+0>1", "0>+1", "-0>1", "0>-1",
    "0>1 0>1", "0>1 1>0", "1>0 0>1", "0>2 0>1", "1>2 0>1", "2>1 2>0", "0>1 1>2 0>2", "0>1 0>2 1>2 1>2",
    "(0, 1)", "[(0, 1)]", "[]", "''", "0>1 0>2 3>1", "0_>1", "0.0>1", "0x0>1", "True>False", "0>1 0>2;", "0>1.",
]


def written_by_hand(begun):
    return " ".join("{}>{}".format(*pair) for pair in begun)


def is_written(text, players):
    """By a rule of its own: the form, then the games."""
    if not re.fullmatch(r"(?:[0-9]>[0-9](?: [0-9]>[0-9])*)?", text):
        return False
    games = [tuple(sorted((int(word[0]), int(word[2])))) for word in text.split()]
    return games == sorted(set(games)) and set(games) <= set(games_of(players))


class Written(unittest.TestCase):
    def test_told_by_hand(self):
        self.assertEqual(written([], 1), "")
        self.assertEqual(written([], 10), "")
        self.assertEqual(written([(0, 1)], 2), "0>1")
        self.assertEqual(written([(1, 0), (0, 2)], 3), "1>0 0>2")
        self.assertEqual(written([(0, 9), (9, 8)], 10), "0>9 9>8")

    def test_few_and_more_players(self):
        for players in range(1, 5):
            for begun in all_begun(players):
                self.assertEqual(written(begun, players), written_by_hand(begun))
        for players in range(5, 11):
            for begun, _ in many_begun(players, 60, players):
                self.assertEqual(written(begun, players), written_by_hand(begun))

    def test_what_is_no_begun_round(self):
        for at, begun in enumerate(NO_BEGUN):
            with self.subTest(at=at):
                self.assertRaises(BadRound, written, begun, 3)

    def test_players_that_are_no_number_from_1_to_10(self):
        for at, players in enumerate(NO_PLAYERS):
            with self.subTest(at=at):
                self.assertRaises(BadRound, written, [], players)
        self.assertRaises(BadRound, written, [(0, 10)], 11)


class Read(unittest.TestCase):
    def check(self, text, players):
        if is_written(text, players):
            self.assertEqual(written_by_hand(read(text, players)), text)
        else:
            self.assertRaises(BadText, read, text, players)

    def test_told_by_hand(self):
        for players in range(1, 11):
            self.assertEqual(read("", players), [])
        self.assertEqual(read("0>1", 2), [(0, 1)])
        self.assertEqual(read("1>0 0>2", 3), [(1, 0), (0, 2)])
        self.assertEqual(read("0>9 9>8", 10), [(0, 9), (9, 8)])

    def test_what_is_written_is_read_back(self):
        for players in range(1, 5):
            for begun in all_begun(players):
                self.assertEqual(read(written(begun, players), players), begun)
        for players in range(1, 11):
            rounds = some_rounds(players, 4, players) + [begun for begun, _ in many_begun(players, 40, players)]
            for begun in rounds:
                told = read(written(begun, players), players)
                self.assertEqual(told, begun)
                self.assertTrue(all(type(pair) is tuple and type(pair[0]) is int for pair in told))

    def test_what_is_not_written_so(self):
        for text in OTHER_TEXTS:
            with self.subTest(text=text):
                self.assertRaises(BadText, read, text, 3)

    def test_every_short_text(self):
        for length in range(8):
            for signs in itertools.product(" >012", repeat=length):
                self.check("".join(signs), 2)
        for text in map("".join, itertools.product("0123456789", "<>= ", "0123456789")):
            for players in range(1, 11):
                self.check(text, players)

    def test_every_sign_in_every_place(self):
        signs = [chr(code) for code in range(128)]
        for players, text in ((4, "1>0 0>2 2>3"), (10, "0>9 8>3 9>8")):
            for at in range(len(text) + 1):
                self.check(text[:at] + text[at + 1:], players)
                for sign in signs:
                    self.check(text[:at] + sign + text[at:], players)
                    self.check(text[:at] + sign + text[at + 1:], players)

    def test_a_player_beyond_the_bounds(self):
        for players in range(1, 10):
            self.assertRaises(BadText, read, "0>%d" % players, players)
            self.assertRaises(BadText, read, "%d>0" % players, players)
            self.assertEqual(read("0>%d" % players, players + 1), [(0, players)])
        self.assertRaises(BadText, read, "0>10", 10)
        self.assertRaises(BadText, read, "10>0", 10)

    def test_each_two_games_twice_or_out_of_their_order(self):
        games = games_of(5)
        for one, other in itertools.product(games, repeat=2):
            for first, second in itertools.product((one, one[::-1]), (other, other[::-1])):
                self.check(written_by_hand([first, second]), 5)

    def test_no_text_at_all(self):
        for at, text in enumerate(NO_TEXTS):
            with self.subTest(at=at):
                self.assertRaises(BadText, read, text, 3)

    def test_long_texts(self):
        text = written_by_hand(games_of(10))
        self.assertEqual(read(text, 10), games_of(10))
        self.assertRaises(BadText, read, text + " " + text, 10)
        self.assertRaises(BadText, read, "0>1 " * 20000, 10)
        self.assertRaises(BadText, read, "1" * 20000 + ">0", 10)

    def test_players_are_looked_at_first(self):
        for at, players in enumerate(NO_PLAYERS):
            with self.subTest(at=at):
                for text in ("", "0>1", " ", "x", None, 3, b""):
                    self.assertRaises(BadRound, read, text, players)
                self.assertRaises(BadRound, read, Unfriendly(), players)
