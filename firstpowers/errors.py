"""The refusals: each a class of its own, straight under PowerError."""


class PowerError(ValueError):
    """Any refusal."""


class NoTable(PowerError):
    """What was handed in for a table is none."""


class NoPlace(PowerError):
    """What was handed in for a place is no place of the table."""


class NoNumber(PowerError):
    """What was handed in for a number is none, or lies out of its bounds."""


class NoOrder(PowerError):
    """What was handed in for an order does not have each place once."""


class NoSet(PowerError):
    """What was handed in for a set is no rising tuple of places."""


class NoWalk(PowerError):
    """What was handed in for a walk is none of the table."""


class NoLengths(PowerError):
    """What was handed in for lengths is no rising tuple of them."""


class NoWay(PowerError):
    """What was handed in for a way is no tuple of places in the list."""


class Apart(PowerError):
    """What was handed in does not have what the question needs, or does not go together."""


class NoRow(PowerError):
    """What the desk was told is no row that it knows."""


class NoTables(PowerError):
    """What was handed in for several tables is none; at is where it fails, -1 for the whole."""

    def __init__(self, at):
        self.at = at


class NoText(PowerError):
    """What was handed in writes no table; at is the row where it fails, -1 for no text."""

    def __init__(self, at):
        self.at = at


class TooGreat(PowerError):
    """A table has many rows, more than the most that the question takes."""

    def __init__(self, many, most):
        self.many = many
        self.most = most
