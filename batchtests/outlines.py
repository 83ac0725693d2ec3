"""Outlines: the full tree of a claim, with the fates that can be met below each of its nodes."""

from batchtests.branches import Branch, Prospect, answers_to, sides_of
from batchtests.rings import ring_of_last
from batchtests.truthwords import UNKNOWN


class Node:
    """A node of the full tree, which asks all columns and then all literals.

    `word` and `asked` are what it asks, and `sides` its two inner nodes; an end has the word None.
    `ring` is a ring of the tests before the node, or None. `met` has for each plan the list of
    the fates that it can give, however all that the branch leaves open is settled.
    """

    def __init__(self, word, asked, sides, ring, met):
        self.word = word
        self.asked = asked
        self.sides = sides
        self.ring = ring
        self.met = met


def outline(columns, plans):
    """Return the whole full tree for the plans."""
    literals = {literal: True for plan in plans for literal in plan.tests}
    questions = [("missing", name) for name in columns.names] + [("test", literal) for literal in literals]
    return node_at([Prospect(plan) for plan in plans], questions, Branch({}, {}), None)


def node_at(prospects, questions, branch, ring):
    """Return the node at the end of the branch that asks the questions one after the other."""
    if not questions:
        met = [prospect.fates_at(branch) for prospect in prospects]
        return Node(None, None, [], ring, met)
    (word, asked), *later = questions
    if word == "test" and answers_to(asked, branch.asked, branch) == (UNKNOWN,):
        return node_at(prospects, later, branch, ring)
    sides = []
    for side in sides_of(branch, word, asked):
        found = ring if ring is not None or word == "missing" else ring_of_last(side.steps())
        sides.append(node_at(prospects, later, side, found))
    met = [joined(one, two) for one, two in zip(sides[0].met, sides[1].met)]
    return Node(word, asked, sides, ring, met)


def joined(fates, others):
    """Return the list of the fates that are in one of two lists at least, each once."""
    return fates + [fate for fate in others if fate not in fates]


def tree_below(node, wanted):
    """Return a tree for the claim that no row meets all wants, whose fates by plan are wanted.

    The claim must hold.
    """
    if node.ring is not None:
        return ("ring", node.ring)
    if is_unmet(node.met, wanted):
        return ("settled",)
    first, second = [tree_below(side, wanted) for side in node.sides]
    return (node.word, node.asked, first, second)


def is_unmet(met, wanted):
    """Tell whether there is a plan none of whose wanted fates can be met."""
    for fates, those in zip(met, wanted):
        if not any([fate in those for fate in fates]):
            return True
    return False
