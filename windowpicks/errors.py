"""The errors of the package."""


class PickError(ValueError):
    """What all errors of this package have in common."""


class InvalidRule(PickError):
    """An argument of a rule is wrong; `word` is the name of the first such parameter."""

    def __init__(self, word):
        self.word = word


class InvalidText(PickError):
    """A text is not of the form that is read."""

    def __init__(self, at):
        self.at = at


class InvalidLetters(PickError):
    """A text has a character that is no letter of the alphabet; `at` is its index."""

    def __init__(self, at):
        self.at = at


class InvalidLot(PickError):
    """A lot has a thing that is no new piece; `at` is its index."""

    def __init__(self, at):
        self.at = at


class InvalidOrder(PickError):
    """An order is no sequence of all pieces, each once."""


class InvalidEdit(PickError):
    """An edit cannot be done."""


class InvalidCommand(PickError):
    """A command of a desk is none that can be done."""


class Refused(PickError):
    """An edit of a row cannot be done; `at` is its index."""

    def __init__(self, at):
        self.at = at
