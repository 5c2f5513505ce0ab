"""The refusals, each a class of its own under DuelError."""


class DuelError(ValueError):
    pass


class NoVariable(DuelError):
    pass


class NoFilling(DuelError):
    pass


class BadLine(DuelError):
    def __init__(self, place):
        DuelError.__init__(self, f"the line at place {place} is bad")
        self.place = place


class NotWhole(DuelError):
    pass


class NoHand(DuelError):
    pass


class BadStep(DuelError):
    pass


class NoForm(DuelError):
    pass


class TooMany(DuelError):
    pass


class NoText(DuelError):
    pass
