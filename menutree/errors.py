"""Errors: one class for each refusal, all of them under MenuError."""


class MenuError(ValueError):
    """Any refusal."""


class NoHouse(MenuError):
    """A text is no house; row is the number, from 1, of the row to blame."""

    def __init__(self, row):
        MenuError.__init__(self, f"no house, by row {row}")
        self.row = row


class Faulty(MenuError):
    """A house has faults; faults is the list of them."""

    def __init__(self, faults):
        MenuError.__init__(self, "a house with faults")
        # A copy, so that the error still tells the same when the maker's list goes on.
        self.faults = list(faults)


class NoName(MenuError):
    """No name, or a name that stands for nothing here."""


class NoHour(MenuError):
    """No hour."""


class NoCall(MenuError):
    """No number of a call that goes on."""


class NoSigns(MenuError):
    """No row of signs of a call."""


class NoRow(MenuError):
    """No row that a desk knows."""
