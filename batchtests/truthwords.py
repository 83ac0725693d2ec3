"""The truths that a part can have for a row: three words, and failures ("fails", code)."""

from batchtests.literals import holds

YES = "yes"
NO = "no"
UNKNOWN = "unknown"
FAILS = "fails"


def is_failure(truth):
    """Tell whether a truth is a failure."""
    return isinstance(truth, tuple)


def exchanged(truth):
    """Return the truth with "yes" and "no" exchanged."""
    if truth == YES:
        return NO
    return YES if truth == NO else truth


def literal_truth(literal, row):
    """Return the truth of the literal as a test."""
    held = holds(literal, row)
    if held is None:
        return UNKNOWN
    return YES if held else NO


def missing_truth(name, row):
    """Return the truth of the test whether the value of a column is missing."""
    return YES if row[name] is None else NO


def deciding(word):
    """Return the truth of one part that decides an "and" or an "or"."""
    return NO if word == "and" else YES
