"""One row for each signature."""

from batchtests.bounds import free_bounds, opposite, tightened, values_within


def samples(columns, literals):
    """Return one row for each signature that some row of the columns has for the literals."""
    rows = []
    for missing in selections(columns.names):
        present = [name for name in columns.names if name not in missing]
        for bounds in divided(["", *present], literals):
            values = values_within(bounds)
            rows.append({name: values.get(name) for name in columns.names})
    return rows


def selections(names):
    """Return all lists of some of the names, from none of them to all of them."""
    chosen = [[]]
    for name in names:
        chosen = chosen + [[*before, name] for before in chosen]
    return chosen


def divided(terms, literals):
    """Return the bounds of the terms, one for each way the literals over them can hold or not."""
    found = [free_bounds(terms)]
    for literal in literals:
        a, b, _ = literal
        if a in terms and b in terms:
            found = split(found, literal)
    return found


def split(found, literal):
    """Divide each of the bounds by the literal, and leave out what no values keep."""
    # A literal that the bounds decide leaves one side, so one that stands twice divides nothing.
    sides = [tightened(bounds, side) for bounds in found for side in (literal, opposite(literal))]
    return [bounds for bounds in sides if bounds is not None]
