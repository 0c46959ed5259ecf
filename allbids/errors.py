"""The errors of the package: each keeps what it is created with."""


class BidError(ValueError):
    """What all other errors of the package are."""


class BadText(BidError):
    """A text is wrong at a column, counted from 1; 0 for what is no string."""

    def __init__(self, column):
        self.column = column


class BadLine(BidError):
    """A line of a text is wrong at a column, both counted from 1."""

    def __init__(self, line, column):
        self.line = line
        self.column = column


class BadNumber(BidError):
    """A value is not the number that it should be."""

    def __init__(self, what, number):
        self.what = what
        self.number = number


class BadRow(BidError):
    """A value is not the row that it should be."""

    def __init__(self, row):
        self.row = row


class BadName(BidError):
    """A value is no name."""

    def __init__(self, name):
        self.name = name


class Unlike(BidError):
    """Values do not fit together in what is told."""

    def __init__(self, what):
        self.what = what


class TooMany(BidError):
    """There are more of something than the limit."""

    def __init__(self, what, limit):
        self.what = what
        self.limit = limit


class TooLarge(BidError):
    """A number is greater than the limit."""

    def __init__(self, what, number, limit):
        self.what = what
        self.number = number
        self.limit = limit


class NoBuyer(BidError):
    """A list or a table is no buyer."""


class NoName(BidError):
    """Nothing has this name."""

    def __init__(self, name):
        self.name = name


class TakenName(BidError):
    """Something else has this name already."""

    def __init__(self, name):
        self.name = name


class NotKept(BidError):
    """A promise is not kept, as the witness shows."""

    def __init__(self, promise, witness):
        self.promise = promise
        self.witness = witness


class NothingToUndo(BidError):
    """No edit stands that could be taken back."""


class NothingToRedo(BidError):
    """No edit was taken back that could be done again."""
