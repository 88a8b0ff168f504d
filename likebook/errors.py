"""The refusals: one class for each, all straight under BookError."""


class BookError(ValueError):
    pass


class NoPack(BookError):
    pass


class NoSide(BookError):
    pass


class NoReason(BookError):
    pass


class TooMuch(BookError):
    pass


class NoCourt(BookError):
    pass


class Late(BookError):
    pass


class NotAllowed(BookError):
    def __init__(self, by):
        self.by = by


class NoRuling(BookError):
    pass


class NotYours(BookError):
    pass


class NoRow(BookError):
    def __init__(self, row):
        self.row = row


class Twice(BookError):
    def __init__(self, name):
        self.name = name


class Unknown(BookError):
    def __init__(self, name):
        self.name = name
