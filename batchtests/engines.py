"""Engines: plans that run tables in batches."""

from batchtests.errors import BadLimit, BadSize, BadTable, NoRow
from batchtests.fates import SELECTED, fate_of
from batchtests.kinds import is_integer
from batchtests.plans import stops
from batchtests.truthwords import FAILS

MOST_ROWS = 8
MOST_SELECTED = 4


class Engine:
    """A plan, the number of rows of a batch, and how many rows are selected at most."""

    def __init__(self, plan, size, limit=None):
        if not is_from_one_to(MOST_ROWS, size):
            raise BadSize()
        if limit is not None and not is_from_one_to(MOST_SELECTED, limit):
            raise BadLimit()
        self.plan = plan
        self.columns = plan.columns
        self.size = size
        self.limit = limit

    def run(self, rows):
        """Return the list of the indexes that are selected, and None or (index, code)."""
        selected = []
        error = None
        for found, stopped in batches(self, rows):
            selected.extend(found)
            error = stopped
        return (selected, error)


def is_from_one_to(most, thing):
    """Tell whether the object is an integer from 1 to the greatest one."""
    return is_integer(thing) and 1 <= thing <= most


def batches(engine, rows):
    """Give for each batch the list of the indexes that it adds, and None or (index, code)."""
    table = checked_table(engine.columns, rows)
    many = 0
    for start in range(0, len(table), engine.size):
        if many == engine.limit:
            return
        found, error = evaluated(engine, table[start:start + engine.size], start, many)
        many = many + len(found)
        yield (found, error)
        if error is not None:
            return


def checked_table(columns, rows):
    """Return a new list of new rows, or raise BadTable if these are not a table of the columns."""
    if not isinstance(rows, list):
        raise BadTable(-1)
    table = []
    for index, row in enumerate(rows):
        try:
            table.append(columns.row(row))
        except NoRow:
            raise BadTable(index) from None
    return table


def evaluated(engine, batch, start, many):
    """Return the indexes that a batch adds after so many, and None or (index, code).

    Each row meets the same in a batch as alone, up to the place where the batch stops; so the
    fates of the rows tell what the batch does.
    """
    met = [fate_of(engine.plan, row) for row in batch]
    for place in stops(engine.plan):
        for index, one in enumerate(met):
            if one[0] == FAILS and one[1] == place:
                return ([], (start + index, one[2]))
    found = [start + index for index, one in enumerate(met) if one == SELECTED]
    room = len(found) if engine.limit is None else engine.limit - many
    return (found[:room], None)
