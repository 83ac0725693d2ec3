"""Plans: how a batch of rows goes through the parts of a condition."""

from batchtests.errors import BadPlan, NoPlace
from batchtests.kinds import is_integer
from batchtests.parts import inner_parts, is_pair

# The ways that a part can have, by its word; parts with other words have none.
WAYS = {"and": ("lazy", "eager", "deferred"), "or": ("lazy", "eager", "deferred"), "case": ("lazy", "eager")}


class Plan:
    """A condition, the ways and orders of its parts, and its hoisted places."""

    def __init__(self, condition, ways=None, *, hoisted=()):
        given = {} if ways is None else ways
        check_ways(condition, given)
        check_hoisted(condition, hoisted)
        self.condition = condition
        self.columns = condition.columns
        self.tests = condition.literals()
        self.ways = full_ways(condition, given)
        self.hoisted = tuple(sorted(hoisted))

    def way(self, place):
        """Return the way and the order of the part at the place."""
        if not has_way(self.condition, place):
            raise NoPlace()
        return self.ways[place]

    def with_way(self, place, way, order=None):
        """Return the plan that differs from this one at this place alone."""
        if not has_way(self.condition, place):
            raise NoPlace()
        return Plan(self.condition, {**self.ways, place: (way, order)}, hoisted=self.hoisted)

    def with_hoisted(self, places):
        """Return the plan that differs from this one in its hoisted places alone."""
        return Plan(self.condition, self.ways, hoisted=places)

    def __eq__(self, other):
        if not isinstance(other, Plan) or self.condition != other.condition:
            return False
        return self.ways == other.ways and self.hoisted == other.hoisted


def has_way(condition, place):
    """Tell whether the object is the place of an "and", an "or" or a "case"."""
    return place in condition and condition[place][0] in WAYS


def check_ways(condition, ways):
    """Raise BadPlan for the first fault of the ways and orders, if there is one."""
    if not isinstance(ways, dict):
        raise BadPlan(None, "ways")
    for key in ways:
        if key not in condition:
            raise BadPlan(None, "place")
    for key in sorted(ways):
        why = fault_at(condition[key], ways[key])
        if why is not None:
            raise BadPlan(key, why)


def fault_at(part, given):
    """Return what is wrong with the object as the way and the order of the part, or None."""
    if part[0] not in WAYS:
        return "place"
    if not is_pair(given) or not is_way(part, given[0]):
        return "way"
    return None if given[1] is None or is_order(part, given[1]) else "order"


def is_way(part, thing):
    """Tell whether the object is a way that the part can have."""
    return isinstance(thing, str) and thing in WAYS[part[0]]


def is_order(part, thing):
    """Tell whether the object has each index of the parts inside once; a "case" has no order."""
    if part[0] == "case" or not isinstance(thing, tuple):
        return False
    if not all([is_integer(index) for index in thing]):
        return False
    return sorted(thing) == list(range(len(inner_parts(part))))


def check_hoisted(condition, hoisted):
    """Raise BadPlan if the object is not a tuple of unlike places of the condition."""
    if not isinstance(hoisted, tuple):
        raise BadPlan(None, "hoisted")
    for index, place in enumerate(hoisted):
        if place not in condition or place in hoisted[:index]:
            raise BadPlan(None, "hoisted")


def full_ways(condition, given):
    """Return a dict with the way and the order at each place that has a way."""
    full = {}
    for place in condition.places():
        part = condition[place]
        if part[0] in WAYS:
            way, order = given.get(place, ("lazy", None))
            if order is None and part[0] != "case":
                order = tuple(range(len(inner_parts(part))))
            full[place] = (way, order)
    return full


def plain(condition):
    """Return the plan of the condition without ways and without hoisted places."""
    return Plan(condition)


def walk(plan):
    """Return the list of all places in the order in which each batch visits them."""
    return walk_from(plan, ())


def walk_from(plan, place):
    """Return the place and all places inside it in the order of the walk."""
    found = [place]
    for index in visits_of(plan, place):
        found.extend(walk_from(plan, (*place, index)))
    return found


def visits_of(plan, place):
    """Return the indexes of the parts directly inside the place in the order of the walk."""
    part = plan.condition[place]
    many = len(inner_parts(part))
    if part[0] == "case":
        # The tests have the even indexes, and the greatest even one is that of the last part.
        return list(range(0, many - 1, 2)) + list(range(1, many, 2)) + [many - 1]
    if part[0] in WAYS:
        return list(plan.way(place)[1])
    return list(range(many))


def stops(plan):
    """Return the list of the places where a batch can stop, in the order of stops."""
    return stops_from(plan, ())


def stops_from(plan, place):
    """Return the places where a batch can stop at or inside a place that is not protected."""
    word = plan.condition[place][0]
    if word in WAYS and plan.way(place)[0] == "deferred":
        # All that is inside is protected.
        return [place]
    found = [place] if word == "must" else []
    for index in visits_of(plan, place):
        found.extend(stops_from(plan, (*place, index)))
    return found
