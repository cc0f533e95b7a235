"""The refusals."""


class SumError(ValueError):
    """Any refusal."""


class BadWeb(SumError):
    """What was handed in is no web, or not one of which this can be asked."""


class NoDeed(SumError):
    """What was handed in is no deed, or can't be done."""


class BadBooks(SumError):
    """What was handed in are no books of a hand."""


class NoNear(SumError):
    """What was handed in is no paper of nearness; at is the number of its first wrong spell."""

    def __init__(self, at):
        super().__init__(f"no paper of nearness, by spell {at}")
        self.at = at


class NoText(SumError):
    """What was handed in is not the text of a book."""


class NoRow(SumError):
    """What was handed in is no row for the desk."""
