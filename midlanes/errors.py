"""The refusals of the program."""


class LaneError(ValueError):
    """Any refusal."""


class NoText(LaneError):
    """A text that is not written as the program reads it."""


class NotFormed(LaneError):
    """A program that is read, but not formed."""


class Faulty(LaneError):
    """A lane with a fault: the stand k, and the fault's word."""

    def __init__(self, k, word):
        self.k = k
        self.word = word
