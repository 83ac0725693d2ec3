"""The fate of a row by a plan: what happens to a batch that consists of this row alone."""

from batchtests.errors import NoFate
from batchtests.parts import codes_in
from batchtests.pieces import cells, row_in
from batchtests.plans import stops
from batchtests.rowsets import set_of
from batchtests.truthwords import FAILS, YES, literal_truth, missing_truth
from batchtests.visits import Visit

SELECTED = ("selected",)
DROPPED = ("dropped",)


def fate(plan, row):
    """Return the fate of a row."""
    return fate_of(plan, plan.columns.row(row))


def fate_of(plan, row):
    """Return the fate of a checked row."""
    answers = {name: missing_truth(name, row) for name in row}
    for literal in plan.tests:
        answers[literal] = literal_truth(literal, row)
    return fate_when(plan, answers)


def fate_when(plan, answers):
    """Return the fate of each row for which the tests have these answers."""
    visit = Visit(plan, answers)
    if visit.noted:
        place, code = visit.noted[0]
        return (FAILS, place, code)
    return SELECTED if visit.told == YES else DROPPED


def fates_by_form(plan):
    """Return the list of the fates that the form of the plan allows."""
    found = [SELECTED, DROPPED]
    for place in stops(plan):
        part = plan.condition[place]
        codes = [part[1]] if part[0] == "must" else codes_in(part)
        found.extend([(FAILS, place, code) for code in codes])
    return found


def fates(plan):
    """Return the list of the fates that some row has, in the order of those by form."""
    met = [one for _, one in cells_with_fates(plan)]
    return [one for one in fates_by_form(plan) if one in met]


def fate_rows(plan, wanted):
    """Return the row set of all rows with the wanted fate."""
    if wanted not in fates_by_form(plan):
        raise NoFate()
    return set_of(plan.columns, [piece for piece, one in cells_with_fates(plan) if one == wanted])


def cells_with_fates(plan):
    """Return pairs of a piece and the fate that all its rows have, with all rows."""
    columns = plan.columns
    pieces = cells(columns, plan.tests)
    return [(piece, fate_of(plan, row_in(columns, piece))) for piece in pieces]
