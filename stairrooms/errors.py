"""The refusals: each has a class of its own, all of them right under StairError."""


class StairError(ValueError):
    pass


class NoHouse(StairError):
    pass


class NoStair(StairError):
    pass


class NoPlace(StairError):
    pass


class TooGreat(StairError):
    pass


class NoWalk(StairError):
    # at is how many ways were gone ahead of the one that can't be gone
    def __init__(self, at):
        self.at = at


class Endless(StairError):
    pass


class NotBare(StairError):
    pass


class NoText(StairError):
    pass


class NoLine(StairError):
    pass


class NoWay(StairError):
    pass


class NoDeed(StairError):
    pass
