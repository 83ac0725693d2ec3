"""Conditions: checked parts over columns."""

from batchtests.errors import BadPart, NoPlace
from batchtests.parts import codes_in, fault_of, inner_parts, literal_of, part_at, places_in


class Condition:
    """A part all of whose inner parts have the right form and terms of the columns."""

    def __init__(self, columns, part):
        check_part(columns, part, ())
        self.columns = columns
        self.part = part

    def places(self):
        """Return the list of all places in reading order."""
        return places_in(self.part, ())

    def literals(self):
        """Return the list of the unlike literals in the reading order of their first occurrences."""
        found = [literal_of(self[place]) for place in self.places()]
        # A dict keeps the order in which its keys were added first.
        return list({literal: True for literal in found if literal is not None})

    def codes(self):
        """Return the ascending list of the unlike codes."""
        return codes_in(self.part)

    def __getitem__(self, place):
        found = part_at(self.part, place)
        if found is None:
            raise NoPlace()
        return found

    def __iter__(self):
        # Without this, Python would try the places 0, 1, 2 and so on.
        raise TypeError("a condition is not iterated over")

    def __contains__(self, place):
        return part_at(self.part, place) is not None

    def __eq__(self, other):
        return isinstance(other, Condition) and self.columns == other.columns and self.part == other.part


def check_part(columns, thing, place):
    """Raise BadPart for the first wrong part in reading order, if there is one."""
    why = fault_of(columns, thing)
    if why is not None:
        raise BadPart(place, why)
    for index, inside in enumerate(inner_parts(thing)):
        check_part(columns, inside, (*place, index))
