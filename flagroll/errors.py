"""The refusals: one class each, all straight under RollError, none under another."""


class RollError(ValueError):
    pass


class NoSalt(RollError):
    pass


class NoFace(RollError):
    pass


class Twice(RollError):
    pass


class BadShare(RollError):
    pass


class TooMuch(RollError):
    pass


class NoWord(RollError):
    pass


class NoGroup(RollError):
    pass


class BadThings(RollError):
    pass


class NoLine(RollError):
    pass


class BadStage(RollError):
    pass


class BadOutcome(RollError):
    pass


class NoSwitch(RollError):
    pass


class Ringed(RollError):
    def __init__(self, ring):
        self.ring = ring


class NoRule(RollError):
    pass


class BadDeed(RollError):
    pass


class NoHold(RollError):
    pass


class NoMoment(RollError):
    pass


class Unlike(RollError):
    pass


class BadLetter(RollError):
    pass


class BadTree(RollError):
    pass


class NoMachine(RollError):
    pass
