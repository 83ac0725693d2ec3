"""The columns of a table and the check of a single row."""

from batchtests.errors import BadColumns, NoRow, Unlike
from batchtests.kinds import is_integer, is_name

MOST_COLUMNS = 4


class Columns:
    """From 1 to 4 unlike names in their order."""

    def __init__(self, *names):
        if not names or len(names) > MOST_COLUMNS:
            raise BadColumns(-1)
        for index, name in enumerate(names):
            if not is_name(name) or name in names[:index]:
                raise BadColumns(index)
        self.names = names

    def row(self, values):
        """Return a new row with these values, or raise NoRow if they are not a row."""
        if not isinstance(values, dict):
            raise NoRow(None)
        for name in self.names:
            if name not in values or not is_value(values[name]):
                raise NoRow(name)
        # All names are keys by now, so a greater number means further keys.
        if len(values) > len(self.names):
            raise NoRow(None)
        return {name: values[name] for name in self.names}

    def __len__(self):
        return len(self.names)

    def __contains__(self, name):
        return isinstance(name, str) and name in self.names

    def __eq__(self, other):
        return isinstance(other, Columns) and self.names == other.names


def is_value(value):
    """Tell whether a row may have this value in a column."""
    return value is None or is_integer(value)


def check_alike(one, other):
    """Raise Unlike if two objects that have columns have unlike ones."""
    if one.columns != other.columns:
        raise Unlike()
