"""Engines that differ from another one in some ways and orders alone."""

from batchtests.compare import difference
from batchtests.engines import Engine
from batchtests.plans import Plan


def with_ways(engine, ways):
    """Return the engine with these pairs of a way and an order, by their places."""
    plan = engine.plan
    changed = {place: ways.get(place, before) for place, before in plan.ways.items()}
    return Engine(Plan(plan.condition, changed, hoisted=plan.hoisted), engine.size, engine.limit)


def with_way_at(engine, places, way):
    """Return the engine with the way at each of the places, in the order that the place had."""
    return with_ways(engine, {place: (way, engine.plan.way(place)[1]) for place in places})


def joined_places(condition):
    """Return the ascending list of the places of "and" and "or"."""
    return [place for place in condition.places() if is_joined(condition, place)]


def is_joined(condition, thing):
    """Tell whether the object is the place of an "and" or an "or"."""
    return thing in condition and condition[thing][0] in ("and", "or")


def are_alike(one, other, level):
    """Tell whether two engines are alike by the level."""
    return difference(one, other, level) is None


def is_within(places, others):
    """Tell whether all of the places are among the others, and these have more."""
    return len(places) < len(others) and all([place in others for place in places])
