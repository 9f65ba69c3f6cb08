"""What is told of a begun round. Lists are copied, so that who hands one in may go on changing it."""


class Answer:
    pass


class Round(Answer):
    def __init__(self, games):
        self.games = list(games)


class Sum(Answer):
    pass


class Weak(Answer):
    def __init__(self, some):
        self.some = list(some)


class Rivals(Answer):
    def __init__(self, some):
        self.some = list(some)
