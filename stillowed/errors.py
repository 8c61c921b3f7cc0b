"""The errors of the package."""


class StillError(ValueError):
    """The base of all errors of this package."""


class InvalidRow(StillError):
    """A value is no row; `at` is the index of the first wrong item, -1 if it is no tuple."""

    def __init__(self, at):
        self.at = at


class InvalidText(StillError):
    """A value is no text of courses; `at` is the index at which that shows."""

    def __init__(self, at):
        self.at = at


class InvalidBook(StillError):
    """A value makes no book; `at` is the number of the first wrong course."""

    def __init__(self, at):
        self.at = at


class InvalidMoment(StillError):
    """A value is no moment of a book; `at` is the first wrong place."""

    def __init__(self, at):
        self.at = at


class InvalidMove(StillError):
    """A move cannot be made; `at` is its place, or a word that tells why."""

    def __init__(self, at):
        self.at = at


class InvalidDealing(StillError):
    """A value is no dealing of a book; `at` is the first wrong place."""

    def __init__(self, at):
        self.at = at


class InvalidNumber(StillError):
    """A number is not as it must be; `word` names it."""

    def __init__(self, word):
        self.word = word


class NoEnding(StillError):
    """A stage has no ending, or is unknown to a table."""

    def __init__(self, stage):
        self.stage = stage


class Refused(StillError):
    """Something is not done; `word` tells why."""

    def __init__(self, word):
        self.word = word
