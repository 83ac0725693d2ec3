"""The levels by which two runs are compared."""

from batchtests.errors import BadLevel

ROWS = "rows"
ERROR = "error"
LEVELS = ("rows", "output", "error")


def check_level(level):
    """Raise BadLevel if the object is not a level."""
    if not isinstance(level, str) or level not in LEVELS:
        raise BadLevel()


def differ(level, result, other):
    """Tell whether two results differ by the level.

    A result is a pair of how many rows are selected and of the error or None. The numbers tell
    whether the lists are equal if no row is selected by one plan alone, and for single rows.
    """
    many, error = result
    others, fault = other
    if (error is None) != (fault is None):
        return True
    if level == ROWS:
        return error is None and many != others
    return many != others or (level == ERROR and error != fault)
