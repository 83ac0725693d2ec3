"""The truth of a condition for one row alone."""

from batchtests.columns import check_alike
from batchtests.errors import NoTruth
from batchtests.kinds import is_name
from batchtests.parts import is_pair
from batchtests.pieces import cells, row_in
from batchtests.rowsets import set_of
from batchtests.samples import samples
from batchtests.truthwords import (
    FAILS, NO, UNKNOWN, YES, deciding, exchanged, is_failure, literal_truth, missing_truth,
)


def truth(condition, row):
    """Return the truth of the condition for a row."""
    return part_truth(condition.part, condition.columns.row(row))


def part_truth(part, row):
    """Return the truth of the part for a checked row."""
    word = part[0]
    if word == "atmost":
        return literal_truth(part[1:], row)
    if word == "missing":
        return missing_truth(part[1], row)
    if word == "must":
        return must_truth(part, row)
    if word == "not":
        return exchanged(part_truth(part[1], row))
    if word == "case":
        return case_truth(part, row)
    return joined_truth(part, row)


def must_truth(part, row):
    """Return the truth of a "must"."""
    _, code, literal, inside = part
    required = literal_truth(literal, row)
    if required == NO:
        return (FAILS, code)
    return part_truth(inside, row) if required == YES else UNKNOWN


def joined_truth(part, row):
    """Return the truth of an "and" or an "or"."""
    word, parts = part
    result = exchanged(deciding(word))
    for inside in parts:
        found = part_truth(inside, row)
        if found == deciding(word) or is_failure(found):
            return found
        if found == UNKNOWN:
            result = UNKNOWN
    return result


def case_truth(part, row):
    """Return the truth of a "case"."""
    _, branches, last = part
    for test, inside in branches:
        found = part_truth(test, row)
        if is_failure(found):
            return found
        if found == YES:
            return part_truth(inside, row)
    return part_truth(last, row)


def truth_rows(condition, wanted):
    """Return the row set of all rows for which the condition has the wanted truth."""
    if not is_truth(wanted):
        raise NoTruth()
    columns = condition.columns
    found = cells(columns, condition.literals())
    return set_of(columns, [piece for piece in found if truth(condition, row_in(columns, piece)) == wanted])


def is_truth(thing):
    """Tell whether the object is a truth."""
    if isinstance(thing, str):
        return thing in (YES, NO, UNKNOWN)
    if not is_pair(thing) or not isinstance(thing[0], str):
        return False
    return thing[0] == FAILS and is_name(thing[1])


def implied(condition, other):
    """Return a row that is "yes" for the condition alone, or None if there is none."""
    for row in common_samples(condition, other):
        if truth(condition, row) == YES and truth(other, row) != YES:
            return row
    return None


def truth_difference(condition, other):
    """Return a row with unlike truths for the two conditions, or None if there is none."""
    for row in common_samples(condition, other):
        if truth(condition, row) != truth(other, row):
            return row
    return None


def common_samples(condition, other):
    """Return one row for each signature for the literals of both conditions."""
    check_alike(condition, other)
    return samples(condition.columns, (*condition.literals(), *other.literals()))
