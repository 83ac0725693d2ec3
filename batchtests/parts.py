"""Parts: the nested tuples that conditions are made of."""

from batchtests.kinds import is_integer, is_name
from batchtests.literals import has_terms, is_triple

MOST_JOINED = 4
MOST_BRANCHES = 3
# The number of items of each form, its word included.
SIZES = {"atmost": 4, "missing": 2, "must": 4, "not": 2, "and": 2, "or": 2, "case": 3}


def fault_of(columns, thing):
    """Return what is wrong with the object as a part, apart from the parts inside it, or None."""
    if not has_form(thing):
        return "form"
    if not has_right_terms(columns, thing):
        return "name"
    return None


def has_form(thing):
    """Tell whether the object has one of the seven forms."""
    if not isinstance(thing, tuple) or not thing:
        return False
    word = thing[0]
    if not isinstance(word, str) or word not in SIZES or len(thing) != SIZES[word]:
        return False
    if word == "atmost":
        return is_triple(thing[1:])
    if word == "must":
        return is_name(thing[1]) and is_triple(thing[2])
    if word in ("and", "or"):
        return is_tuple_up_to(MOST_JOINED, thing[1])
    if word == "case":
        return is_tuple_up_to(MOST_BRANCHES, thing[1]) and all([is_pair(branch) for branch in thing[1]])
    return True


def is_tuple_up_to(most, thing):
    """Tell whether the object is a tuple with at least one item and at most so many."""
    return isinstance(thing, tuple) and 1 <= len(thing) <= most


def is_pair(thing):
    """Tell whether the object is a tuple of two items."""
    return isinstance(thing, tuple) and len(thing) == 2


def has_right_terms(columns, part):
    """Tell whether the terms are right in an object that has the form of a part."""
    if part[0] == "missing":
        return part[1] in columns
    literal = literal_of(part)
    return literal is None or has_terms(columns, literal)


def literal_of(part):
    """Return the literal of an "atmost" or a "must", and None for other parts."""
    if part[0] == "atmost":
        return part[1:]
    if part[0] == "must":
        return part[2]
    return None


def inner_parts(part):
    """Return the list of the parts directly inside the part, by their indexes."""
    word = part[0]
    if word == "not":
        return [part[1]]
    if word == "must":
        return [part[3]]
    if word in ("and", "or"):
        return list(part[1])
    if word == "case":
        inside = [one for branch in part[1] for one in branch]
        return [*inside, part[2]]
    return []


def with_inner(part, index, inside):
    """Return the part with another part directly inside it at the index."""
    word = part[0]
    if word in ("and", "or"):
        return (word, (*part[1][:index], inside, *part[1][index + 1:]))
    if word == "case":
        return case_of([*inner_parts(part)[:index], inside, *inner_parts(part)[index + 1:]])
    # A "not" and a "must" end with the only part inside them.
    return (*part[:-1], inside)


def case_of(inside):
    """Return the "case" with these parts directly inside it."""
    *tested, last = inside
    return ("case", tuple(zip(tested[0::2], tested[1::2])), last)


def without_inner(part, index):
    """Return the "and" or "or" without the part directly inside it at the index."""
    word, parts = part
    return (word, parts[:index] + parts[index + 1:])


def part_at(part, place):
    """Return the part at the place, or None if the object is not a place of the part."""
    if not isinstance(place, tuple):
        return None
    for index in place:
        inside = inner_parts(part)
        if not is_integer(index) or not 0 <= index < len(inside):
            return None
        part = inside[index]
    return part


def places_in(part, place):
    """Return the places of the part, which is at the place itself, and of all inside it."""
    found = [place]
    for index, inside in enumerate(inner_parts(part)):
        found.extend(places_in(inside, (*place, index)))
    return found


def codes_in(part):
    """Return the ascending list of the unlike codes of the part and of all parts inside it."""
    parts = [part_at(part, place) for place in places_in(part, ())]
    return sorted({inside[1] for inside in parts if inside[0] == "must"})
