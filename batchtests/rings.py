"""Rings: steps (a, b, n) one after the other that would make a value less than itself.

A step says that a is at most b plus n.
"""

from batchtests.kinds import is_integer


def is_ring(steps, thing):
    """Tell whether the object is a tuple of indexes of steps that are a ring."""
    if not isinstance(thing, tuple) or not thing:
        return False
    if not all([is_integer(index) and 0 <= index < len(steps) for index in thing]):
        return False
    ring = [steps[index] for index in thing]
    following = ring[1:] + ring[:1]
    if any([one[1] != two[0] for one, two in zip(ring, following)]):
        return False
    return sum([n for _, _, n in ring]) < 0


def ring_of_last(steps):
    """Return the indexes of a ring that begins with the last step, or None if there is none."""
    return ring_from(steps, (len(steps) - 1,))


def ring_from(steps, indexes):
    """Return a ring that begins with these indexes and has no step twice, or None."""
    if is_ring(steps, indexes):
        return indexes
    end = steps[indexes[-1]][1]
    for index, step in enumerate(steps):
        if step[0] == end and index not in indexes:
            found = ring_from(steps, (*indexes, index))
            if found is not None:
                return found
    return None
