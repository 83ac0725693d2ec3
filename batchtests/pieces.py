"""Pieces: the rows with certain missing columns for which some literals hold.

A piece is a tuple (missing, literals, bounds): the missing columns in the order of the columns,
the literals, and the bounds that they imply for the other columns. Each piece has a row at
least. Lists of pieces stand for sets of rows; no two pieces of one list have a row in common.
"""

from batchtests.bounds import excludes, free_bounds, implies, opposite, tightened, values_within


def free_piece(columns, missing):
    """Return the piece of all rows with these missing columns."""
    gone = tuple([name for name in columns.names if name in missing])
    present = [name for name in columns.names if name not in missing]
    return (gone, (), free_bounds(["", *present]))


def free_pieces(columns):
    """Return the pieces that have all rows of the columns."""
    return [free_piece(columns, missing) for missing in selections(columns.names)]


def selections(names):
    """Return all lists of some of the names, from none of them to all of them."""
    chosen = [[]]
    for name in names:
        chosen = chosen + [[*before, name] for before in chosen]
    return chosen


def narrowed(piece, literals):
    """Return the piece of those rows for which all the literals hold, or None if there are none."""
    # Most pieces that are compared have no row in common, and most of these show it by one
    # literal alone: looking at each of them first is much cheaper than tightening.
    if any([excludes(piece[2], literal) for literal in literals]):
        return None
    for literal in literals:
        if excludes(piece[2], literal):
            return None
        piece = with_literal(piece, literal)
    return piece


def with_literal(piece, literal):
    """Return the piece of those rows for which the literal holds, which must not be excluded."""
    missing, literals, bounds = piece
    if implies(bounds, literal):
        return piece
    # A literal of the same terms that is not implied says more than the earlier one.
    kept = [earlier for earlier in literals if earlier[:2] != literal[:2]]
    return (missing, (*kept, literal), tightened(bounds, literal))


def outside(piece, literals):
    """Return pieces with those rows of the piece for which one of the literals does not hold."""
    if narrowed(piece, literals) is None:
        return [piece]
    found = []
    for literal in literals:
        if not implies(piece[2], literal):
            found.append(with_literal(piece, opposite(literal)))
            piece = with_literal(piece, literal)
    return found


def remaining(pieces, others):
    """Return pieces with the rows that are in the pieces and not in the others."""
    for missing, literals, _ in others:
        left = []
        for piece in pieces:
            left.extend(outside(piece, literals) if piece[0] == missing else [piece])
        pieces = left
    return pieces


def common(pieces, others):
    """Return pieces with the rows that are both in the pieces and in the others."""
    found = []
    for piece in pieces:
        for missing, literals, _ in others:
            if piece[0] == missing:
                found.append(narrowed(piece, literals))
    return [piece for piece in found if piece is not None]


def cells(columns, literals):
    """Return pieces with all rows, one for each signature that some row has for the literals."""
    found = free_pieces(columns)
    for literal in literals:
        found = split(found, literal)
    return found


def split(pieces, literal):
    """Divide each piece in which no column of the literal is missing by the literal."""
    found = []
    for piece in pieces:
        a, b, _ = literal
        sides = [()] if a in piece[0] or b in piece[0] else [(literal,), (opposite(literal),)]
        found.extend([narrowed(piece, side) for side in sides])
    return [piece for piece in found if piece is not None]


def row_in(columns, piece):
    """Return a new row that is in the piece."""
    values = values_within(piece[2])
    return {name: values.get(name) for name in columns.names}
