"""Comparing engines and plans over all tables and rows."""

from batchtests.columns import check_alike
from batchtests.fates import fate_of, fates_by_form
from batchtests.levels import check_level
from batchtests.samples import samples
from batchtests.words import shortest_word


def difference(one, other, level):
    """Return as few rows as possible on which the runs of two engines differ, or None."""
    check_level(level)
    check_alike(one, other)
    rows = rows_by_joint_fate(one.plan, other.plan)
    word = shortest_word(one, other, level, list(rows))
    # A joint fate may stand twice in the word, but each row is a dict of its own.
    return None if word is None else [one.columns.row(rows[pair]) for pair in word]


def joint_fates(one, other):
    """Return the pairs of fates by two plans that some row has, in the order of those by form."""
    check_alike(one, other)
    rows = rows_by_joint_fate(one, other)
    return [(f, g) for f in fates_by_form(one) for g in fates_by_form(other) if (f, g) in rows]


def unlike_row(one, other):
    """Return a row whose fates by two plans are of unlike kinds, or None."""
    check_alike(one, other)
    rows = rows_by_joint_fate(one, other)
    for (f, g), row in rows.items():
        if f[0] != g[0]:
            return row
    return None


def rows_by_joint_fate(one, other):
    """Return a dict from each pair of fates by two plans that some row has to such a row."""
    rows = {}
    for row in samples(one.columns, (*one.tests, *other.tests)):
        rows.setdefault((fate_of(one, row), fate_of(other, row)), row)
    return rows
