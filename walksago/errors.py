"""The refusals, one class for each kind."""


class LongError(ValueError):
    """Any refusal."""


class NoRest(LongError):
    """There is not just one row of resting shares."""


class NoOrder(LongError):
    """The pairs are no order, or not one that is kept as it must be."""


class NoAsk(LongError):
    """The desk does not take the line."""


class NoWeb(LongError):
    """No web can be had; row is the first wrong row, counted from 0."""

    def __init__(self, row):
        super().__init__(f"no web, by row {row}")
        self.row = row


class NoTable(LongError):
    """No table of shares; row is the first wrong row, counted from 0."""

    def __init__(self, row):
        super().__init__(f"no table of shares, by row {row}")
        self.row = row


class NoName(LongError):
    """A word that names nothing here."""

    def __init__(self, word):
        super().__init__(f"no name here: {word}")
        self.word = word
