"""The refusals: one class for each, all beneath FrontError."""


class FrontError(ValueError):
    pass


class TooMany(FrontError):
    pass


class BadTie(FrontError):
    pass


class Twice(FrontError):
    pass


class NoOrder(FrontError):
    pass


class NoSet(FrontError):
    pass


class BadKnots(FrontError):
    pass


class NoKnot(FrontError):
    pass


class BadRule(FrontError):
    pass


class NoNumber(FrontError):
    pass


class NoWeights(FrontError):
    pass


class Unlike(FrontError):
    pass


class NoTie(FrontError):
    pass


class NoText(FrontError):
    pass


class NoRow(FrontError):
    pass


class NoName(FrontError):
    pass
