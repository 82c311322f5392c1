"""The refusals: LateError, and each of the others straight under it."""


class LateError(ValueError):
    pass


class NoText(LateError):
    def __init__(self, hand):
        self.hand = hand


class TooGreat(LateError):
    pass


class NoMove(LateError):
    pass


class NotEnded(LateError):
    pass


class NoTale(LateError):
    pass


class NoOrder(LateError):
    pass


class NoGap(LateError):
    pass


class NoRun(LateError):
    pass


class NoRow(LateError):
    pass


class NoName(LateError):
    pass
