"""What is an integer and what is a name."""

LETTERS = "abcdefghijklmnopqrstuvwxyz"
MOST_LETTERS = 8
WORDS = ("and", "case", "else", "is", "missing", "must", "not", "or")


def is_integer(value):
    """Tell whether the value is an integer; True and False are none."""
    return isinstance(value, int) and not isinstance(value, bool)


def is_name(value):
    """Tell whether the value can be the name of a column or of an error code."""
    if not isinstance(value, str) or value in WORDS:
        return False
    return 1 <= len(value) <= MOST_LETTERS and all([letter in LETTERS for letter in value])
