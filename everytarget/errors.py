"""The errors by which the functions of this package refuse."""


class TargetError(ValueError):
    """The base of all refusals; only its subclasses are raised."""


class NotValid(TargetError):
    """An argument is outside of its bounds."""


class BadText(TargetError):
    """A text is none of a program or a question."""

    def __init__(self, line, place):
        self.line = line
        self.place = place
