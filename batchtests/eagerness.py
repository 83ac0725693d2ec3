"""Parts that can be eager without changing what an engine reports."""

from batchtests.changes import are_alike, is_within, with_way_at
from batchtests.levels import check_level
from batchtests.pieces import selections


def eager_sets(engine, level):
    """Return the greatest sets of places that can all be eager, as an ascending list of tuples."""
    check_level(level)
    alike = []
    for places in selections(sorted(engine.plan.ways)):
        if are_alike(engine, with_way_at(engine, places, "eager"), level):
            alike.append(tuple(places))
    return sorted([one for one in alike if not any([is_within(one, other) for other in alike])])
