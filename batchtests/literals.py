"""Literals: tuples (a, b, n) that say that the value of a is at most the value of b plus n."""

from batchtests.kinds import is_integer


def is_triple(thing):
    """Tell whether the object has the form of a literal, whatever its terms are."""
    return isinstance(thing, tuple) and len(thing) == 3 and is_integer(thing[2])


def has_terms(columns, literal):
    """Tell whether the terms of a triple are unlike terms of the columns."""
    a, b, _ = literal
    return is_term(columns, a) and is_term(columns, b) and a != b


def is_term(columns, thing):
    """Tell whether the object is a column's name or the term for the number 0."""
    return thing in columns or (isinstance(thing, str) and thing == "")


def is_literal(columns, thing):
    """Tell whether the object is a literal of the columns."""
    return is_triple(thing) and has_terms(columns, thing)


def holds(literal, row):
    """Tell whether the literal holds for the row, or return None if a column of it is missing."""
    a, b, n = literal
    left = value_of(a, row)
    right = value_of(b, row)
    if left is None or right is None:
        return None
    return left <= right + n


def value_of(term, row):
    """Return the value of the term in the row, None if it is missing."""
    return 0 if term == "" else row[term]
