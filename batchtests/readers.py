"""Reading parts from texts. What is read may still be no right part of any columns."""

from batchtests.errors import BadText

MARKS = "():,"
DIGITS = "0123456789"
MOST_DIGITS = 100


class Reader:
    """The words and marks of a text that have not been read yet, in turned order."""

    def __init__(self, left):
        self.left = left

    def sees(self, word):
        """Tell whether the word or mark comes next."""
        return bool(self.left) and self.left[-1] == word

    def take(self):
        """Read and return the next word or mark."""
        if not self.left:
            raise BadText()
        return self.left.pop()

    def skip(self, word):
        """Read the word or mark, which has to come next."""
        if self.take() != word:
            raise BadText()


def part_of(text):
    """Return the part that the whole text tells of."""
    for mark in MARKS:
        text = text.replace(mark, f" {mark} ")
    words = [word for word in text.split(" ") if word != ""]
    reader = Reader(words[::-1])
    part = read_part(reader)
    if reader.left:
        raise BadText()
    return part


def read_part(reader):
    """Read a part."""
    word = reader.take()
    if word == "(":
        part = read_inside(reader)
        reader.skip(")")
        return part
    if reader.sees("is"):
        reader.skip("is")
        reader.skip("missing")
        return ("missing", word)
    return ("atmost", *read_literal(reader, word))


def read_inside(reader):
    """Read what stands between the brackets of a part."""
    word = reader.take()
    if word == "must":
        return read_must(reader)
    if word == "not":
        return ("not", read_part(reader))
    if word in ("and", "or"):
        return (word, read_joined(reader))
    if word == "case":
        return read_case(reader)
    raise BadText()


def read_must(reader):
    """Read a "must" behind its word."""
    code = reader.take()
    literal = read_literal(reader, reader.take())
    reader.skip(":")
    return ("must", code, literal, read_part(reader))


def read_joined(reader):
    """Read the parts of an "and" or an "or"."""
    parts = [read_part(reader)]
    while reader.sees(","):
        reader.skip(",")
        parts.append(read_part(reader))
    return tuple(parts)


def read_case(reader):
    """Read a "case" behind its word."""
    branches = []
    while not reader.sees("else"):
        test = read_part(reader)
        reader.skip(":")
        branches.append((test, read_part(reader)))
        reader.skip(",")
    reader.skip("else")
    return ("case", tuple(branches), read_part(reader))


def read_literal(reader, first):
    """Read a literal behind its first term."""
    reader.skip("<=")
    second = reader.take()
    sign = reader.take()
    number = number_of(reader.take())
    if sign not in ("+", "-"):
        raise BadText()
    return (term_of(first), term_of(second), number if sign == "+" else -number)


def term_of(word):
    """Return the term that the word stands for."""
    return "" if word == "0" else word


def number_of(word):
    """Return the number that is written in so many digits at most."""
    if not 1 <= len(word) <= MOST_DIGITS or not all([letter in DIGITS for letter in word]):
        raise BadText()
    return int(word)
