"""Sets of rows, described by cases."""

from batchtests.columns import check_alike
from batchtests.errors import BadCases, NoRow
from batchtests.literals import holds, is_literal
from batchtests.pieces import common, free_piece, free_pieces, narrowed, remaining, row_in


class RowSet:
    """The rows that fit one of the cases at least."""

    def __init__(self, columns, cases):
        if not isinstance(cases, tuple):
            raise BadCases(-1)
        for index, case in enumerate(cases):
            if not is_case(columns, case):
                raise BadCases(index)
        self.columns = columns
        self.pieces = pieces_of(columns, cases)

    @property
    def cases(self):
        return tuple([(missing, literals) for missing, literals, _ in self.pieces])

    def some(self):
        """Return a row of the set, or None if there is none."""
        return row_in(self.columns, self.pieces[0]) if self.pieces else None

    def is_empty(self):
        """Tell whether the set has no rows."""
        return not self.pieces

    def within(self, other):
        """Tell whether each row of this set is in the other one."""
        check_alike(self, other)
        return not remaining(self.pieces, other.pieces)

    def __contains__(self, row):
        try:
            values = self.columns.row(row)
        except NoRow:
            return False
        return any([fits(values, case) for case in self.cases])

    def __eq__(self, other):
        if not isinstance(other, RowSet) or self.columns != other.columns:
            return False
        return self.within(other) and other.within(self)

    def __and__(self, other):
        check_alike(self, other)
        return set_of(self.columns, common(self.pieces, other.pieces))

    def __or__(self, other):
        check_alike(self, other)
        return set_of(self.columns, self.pieces + remaining(other.pieces, self.pieces))

    def __sub__(self, other):
        check_alike(self, other)
        return set_of(self.columns, remaining(self.pieces, other.pieces))

    def __invert__(self):
        return set_of(self.columns, remaining(free_pieces(self.columns), self.pieces))


def is_case(columns, thing):
    """Tell whether the object is a case of the columns."""
    if not isinstance(thing, tuple) or len(thing) != 2:
        return False
    missing, literals = thing
    if not are_unlike_names(columns, missing) or not isinstance(literals, tuple):
        return False
    return all([is_literal_beside(columns, missing, literal) for literal in literals])


def are_unlike_names(columns, thing):
    """Tell whether the object is a tuple of unlike names of the columns."""
    if not isinstance(thing, tuple):
        return False
    return all([name in columns and name not in thing[:index] for index, name in enumerate(thing)])


def is_literal_beside(columns, missing, thing):
    """Tell whether the object is a literal of the columns none of whose columns is missing."""
    return is_literal(columns, thing) and thing[0] not in missing and thing[1] not in missing


def pieces_of(columns, cases):
    """Return pieces with the rows that fit one of the cases at least."""
    pieces = []
    for missing, literals in cases:
        piece = narrowed(free_piece(columns, missing), literals)
        if piece is not None:
            pieces = pieces + remaining([piece], pieces)
    return pieces


def set_of(columns, pieces):
    """Return the row set with the rows of the pieces, no two of which have a row in common."""
    made = RowSet(columns, ())
    made.pieces = pieces
    return made


def fits(row, case):
    """Tell whether a row of the columns fits the case."""
    missing, literals = case
    if [name for name in row if row[name] is None] != list(missing):
        return False
    return all([holds(literal, row) for literal in literals])


def all_rows(columns):
    """Return the row set with all rows of the columns."""
    return set_of(columns, free_pieces(columns))


def no_rows(columns):
    """Return the row set without rows."""
    return RowSet(columns, ())
