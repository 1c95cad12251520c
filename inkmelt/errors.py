"""The refusals: each has a class of its own, straight under InkError."""


class InkError(ValueError):
    pass


class TooMany(InkError):
    pass


class BadRule(InkError):
    pass


class BadShape(InkError):
    pass


class BadNumber(InkError):
    pass


class NoPlace(InkError):
    pass


class NoNote(InkError):
    pass
