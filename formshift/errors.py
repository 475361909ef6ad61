"""The refusals of the program."""


class ShiftError(ValueError):
    pass


class TooWide(ShiftError):
    pass


class NotRead(ShiftError):
    pass
