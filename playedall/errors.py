"""The refusals, one class for each."""


class RoundError(ValueError):
    pass


class BadRound(RoundError):
    pass


class BadWins(RoundError):
    pass


class BadPlayer(RoundError):
    pass


class BadTurn(RoundError):
    pass


class Unlike(RoundError):
    pass


class BadText(RoundError):
    pass
