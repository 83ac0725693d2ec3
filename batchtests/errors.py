"""The errors of the package. Each attribute keeps the very value that it was given."""


class BatchError(ValueError):
    """The base class of all errors of the package."""


class BadColumns(BatchError):
    """Columns cannot have these names; the index is that of the first wrong one, or -1."""

    def __init__(self, index):
        self.index = index


class BadCases(BatchError):
    """A row set cannot have these cases; the index is that of the first wrong one, or -1."""

    def __init__(self, index):
        self.index = index


class BadTable(BatchError):
    """This is no table of the columns; the index is that of the first wrong row, or -1."""

    def __init__(self, index):
        self.index = index


class BadWants(BatchError):
    """These are no wants; the index is that of the first wrong one, or -1."""

    def __init__(self, index):
        self.index = index


class NoRow(BatchError):
    """This is no row of the columns; the name is that of the first wrong column, or None."""

    def __init__(self, name):
        self.name = name


class BadPart(BatchError):
    """A condition cannot have the part at this place."""

    def __init__(self, place, why):
        self.place = place
        self.why = why


class BadPlan(BatchError):
    """A condition has no such plan; the place is the key that is wrong, or None."""

    def __init__(self, place, why):
        self.place = place
        self.why = why


class Failed(BatchError):
    """A batch of a feed stopped with the row at this index and with this code."""

    def __init__(self, index, code):
        self.index = index
        self.code = code


class TooMany(BatchError):
    """There is more to go through than the limit allows."""

    def __init__(self, limit):
        self.limit = limit


class Unlike(BatchError):
    """Two things that are taken together have unlike columns."""


class NoPlace(BatchError):
    """This is no place of the condition, or none of the wanted kind."""


class NoTruth(BatchError):
    """This is no truth."""


class NoFate(BatchError):
    """This is no fate that the form of the plan allows."""


class BadSize(BatchError):
    """An engine cannot have batches of this size."""


class BadLimit(BatchError):
    """An engine cannot have this limit."""


class BadLevel(BatchError):
    """This is no level of comparison."""


class Ended(BatchError):
    """The feed is closed."""


class BadText(BatchError):
    """This is the text of no condition over the columns."""
