"""The errors with which things are refused."""


class VouchError(ValueError):
    """Whatever is refused here."""


class NoText(VouchError):
    """A text that writes nothing of what was asked for."""


class NoDeed(VouchError):
    """A thing that is no deed."""


class NoName(VouchError):
    """A name that no deed has."""

    def __init__(self, name):
        super().__init__("no deed of this name is there")
        self.name = name


class NoNeed(VouchError):
    """Rows for which no claims are found: row is the one that stops it, or None."""

    def __init__(self, row):
        super().__init__("no claims are found for these rows")
        self.row = row


class NoRow(VouchError):
    """A text that is none of the rows that a desk answers."""
