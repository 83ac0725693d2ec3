"""One row for each signature."""

from batchtests.pieces import cells, row_in


def samples(columns, literals):
    """Return one row for each signature that some row of the columns has for the literals."""
    return [row_in(columns, piece) for piece in cells(columns, literals)]
