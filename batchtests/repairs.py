"""What makes an engine alike to the plain one, and what a condition does not need."""

from batchtests.changes import are_alike, is_joined, is_within, joined_places, with_way_at
from batchtests.conditions import Condition
from batchtests.engines import Engine
from batchtests.levels import check_level
from batchtests.parts import inner_parts, with_inner, without_inner
from batchtests.pieces import selections
from batchtests.plans import plain
from batchtests.samples import samples
from batchtests.truths import part_truth


def least_deferred(engine, level):
    """Return the least sets of places that make the engine plain if deferred, as a list of tuples."""
    check_level(level)
    condition = engine.plan.condition
    wanted = Engine(plain(condition), engine.size, engine.limit)
    alike = []
    for places in selections(joined_places(condition)):
        if are_alike(wanted, with_way_at(engine, places, "deferred"), level):
            alike.append(tuple(places))
    return sorted([one for one in alike if not any([is_within(other, one) for other in alike])])


def needless(condition):
    """Return the list of the places of parts each of which alone can be left out."""
    rows = samples(condition.columns, tuple(condition.literals()))
    truths = [part_truth(condition.part, row) for row in rows]
    return [
        place for place in condition.places()
        if can_be_left_out(condition, place) and has_truths(without(condition.part, place), rows, truths)
    ]


def can_be_left_out(condition, place):
    """Tell whether the part at the place is one of several of an "and" or an "or"."""
    around = place[:-1]
    return place != () and is_joined(condition, around) and len(condition[around][1]) > 1


def has_truths(part, rows, truths):
    """Tell whether the part has these truths for the rows."""
    for row, expected in zip(rows, truths):
        if part_truth(part, row) != expected:
            return False
    return True


def without(part, place):
    """Return the part without the part at the place, which is inside an "and" or an "or"."""
    index = place[0]
    if len(place) == 1:
        return without_inner(part, index)
    return with_inner(part, index, without(inner_parts(part)[index], place[1:]))


def shorter(condition):
    """Return the condition without needless parts, of which the first is left out again and again."""
    found = needless(condition)
    while found:
        condition = Condition(condition.columns, without(condition.part, found[0]))
        found = needless(condition)
    return condition
