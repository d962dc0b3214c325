"""The refusals, one class for each."""


class BeatError(ValueError):
    pass


class NoWheel(BeatError):
    pass


class NoStroke(BeatError):
    pass


class NoRow(BeatError):
    pass


class Uneven(BeatError):
    def __init__(self, width, most, least):
        self.width = width
        self.most = most
        self.least = least
