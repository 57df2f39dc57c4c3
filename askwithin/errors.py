"""The refusals: one class for each, all of them under AskError."""


class AskError(ValueError):
    pass


class NoTable(AskError):
    pass


class NoRow(AskError):
    pass


class Full(AskError):
    pass


class TooMany(AskError):
    pass


class NoText(AskError):
    pass


class NoName(AskError):
    pass


class NoDeed(AskError):
    pass
