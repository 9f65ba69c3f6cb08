import unittest

from playedall.errors import BadPlayer, BadRound, BadText, BadTurn, BadWins, RoundError, Unlike


class Errors(unittest.TestCase):
    def test_round_error_stands_under_value_error(self):
        self.assertEqual(RoundError.__bases__, (ValueError,))

    def test_each_refusal_stands_straight_under_round_error(self):
        for refusal in (BadRound, BadWins, BadPlayer, BadTurn, Unlike, BadText):
            with self.subTest(refusal=refusal):
                self.assertEqual(refusal.__bases__, (RoundError,))

    def test_names(self):
        names = [refusal.__name__ for refusal in (RoundError, BadRound, BadWins, BadPlayer, BadTurn, Unlike, BadText)]
        self.assertEqual(names, ["RoundError", "BadRound", "BadWins", "BadPlayer", "BadTurn", "Unlike", "BadText"])
