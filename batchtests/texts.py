"""Conditions as texts."""

from batchtests.conditions import Condition
from batchtests.errors import BadPart, BadText
from batchtests.readers import part_of

MOST_CHARACTERS = 10000
MOST_OPEN = 40


def shown(condition):
    """Return the text of the condition."""
    return shown_part(condition.part)


def shown_part(part):
    """Return the text of the part."""
    word = part[0]
    if word == "atmost":
        return shown_literal(part[1:])
    if word == "missing":
        return f"{part[1]} is missing"
    if word == "must":
        return f"(must {part[1]} {shown_literal(part[2])}: {shown_part(part[3])})"
    if word == "not":
        return f"(not {shown_part(part[1])})"
    if word == "case":
        branches = [f"{shown_part(test)}: {shown_part(inside)}" for test, inside in part[1]]
        last = f"else {shown_part(part[2])}"
        return shown_list(word, [*branches, last])
    return shown_list(word, [shown_part(inside) for inside in part[1]])


def shown_list(word, texts):
    """Return the text of a part whose word stands before a list."""
    listed = ", ".join(texts)
    return f"({word} {listed})"


def shown_literal(literal):
    """Return the text of the literal."""
    a, b, n = literal
    sign = "-" if n < 0 else "+"
    return f"{shown_term(a)} <= {shown_term(b)} {sign} {abs(n)}"


def shown_term(term):
    """Return the text of the term."""
    return "0" if term == "" else term


def read(columns, text):
    """Return the condition over the columns with just this text."""
    if not isinstance(text, str) or len(text) > MOST_CHARACTERS or most_open(text) > MOST_OPEN:
        raise BadText()
    try:
        condition = Condition(columns, part_of(text))
    except BadPart:
        raise BadText() from None
    # Reading is not strict about blanks and zeros; the text of the condition is.
    if shown(condition) != text:
        raise BadText()
    return condition


def most_open(text):
    """Return how many brackets are open where most are."""
    most = 0
    depth = 0
    for letter in text:
        if letter == "(":
            depth = depth + 1
        elif letter == ")":
            depth = depth - 1
        most = max(most, depth)
    return most
