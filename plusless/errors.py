"""The refusals of plusless, one class for each."""


class PlusError(ValueError):
    pass


class NoRow(PlusError):
    pass


class NoNumber(PlusError):
    pass


class NoSigns(PlusError):
    pass


class TooMany(PlusError):
    pass


class Lacking(PlusError):
    pass


class Bare(PlusError):
    pass


class NoTable(PlusError):
    pass


class NoLine(PlusError):
    pass


class NoText(PlusError):
    def __init__(self, at):
        self.at = at
