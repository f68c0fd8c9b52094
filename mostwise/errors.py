"""The refusals: one class each, all straight under MostError, so that each is taken by its own name."""


class MostError(ValueError):
    pass


class NoStatement(MostError):
    def __init__(self, found):
        self.found = found


class NoRow(MostError):
    def __init__(self, found):
        self.found = found


class NoThing(MostError):
    def __init__(self, found):
        self.found = found


class Doubled(MostError):
    def __init__(self, found):
        self.found = found


class NoLabel(MostError):
    def __init__(self, found):
        self.found = found


class NoFact(MostError):
    def __init__(self, found):
        self.found = found


class NoBeat(MostError):
    def __init__(self, found):
        self.found = found


class TooMany(MostError):
    def __init__(self, count):
        self.count = count


class Ring(MostError):
    def __init__(self, chain):
        # A copy, so that a list that is changed behind changes nothing here.
        self.chain = list(chain) if isinstance(chain, list) else chain


class StillOpen(MostError):
    def __init__(self, found):
        self.found = found


class Decided(MostError):
    def __init__(self, found):
        self.found = found


class NoStand(MostError):
    def __init__(self, found):
        self.found = found


class NoTurn(MostError):
    pass
