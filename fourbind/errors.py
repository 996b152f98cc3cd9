"""The refusals. Each keeps what it was made with, in fields so called."""


class BindError(ValueError):
    """Any refusal."""


class NoText(BindError):
    """A text that is no program's; row is the first by which it can't be one any more."""

    def __init__(self, row):
        self.row = row


class NoProgram(BindError):
    """A program that is not let by: the word says why, at which statement, of which name."""

    def __init__(self, word, at, name):
        self.word = word
        self.at = at
        self.name = name


class NoPlan(BindError):
    """A plan that doesn't hold: the word says why, at which body or making."""

    def __init__(self, word, at):
        self.word = word
        self.at = at


class NoRow(BindError):
    """A row that says nothing to a desk."""


class NoKept(BindError):
    """A name by which a desk keeps nothing."""

    def __init__(self, name):
        self.name = name


class NoBegun(BindError):
    """A desk was asked of its machine ahead of the first begin."""
