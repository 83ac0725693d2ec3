"""Papers and certificates: trees that show what rows there are not."""

from batchtests.branches import Branch, Prospect
from batchtests.columns import check_alike
from batchtests.compare import difference, joint_fates
from batchtests.fates import fate_of, fates_by_form
from batchtests.levels import check_level
from batchtests.outlines import outline, tree_below
from batchtests.samples import samples
from batchtests.trees import closes_below
from batchtests.wants import check_wants
from batchtests.words import shortest_word


def row_for(columns, wants):
    """Return a row that meets all wants, or None if there is none."""
    check_wants(columns, wants)
    literals = [literal for plan, _ in wants for literal in plan.tests]
    for row in samples(columns, tuple(literals)):
        if all([fate_of(plan, row) in fates for plan, fates in wants]):
            return row
    return None


def paper(columns, wants):
    """Return a tree that closes for the claim, or None if some row meets all wants."""
    if row_for(columns, wants) is not None:
        return None
    root = outline(columns, [plan for plan, _ in wants])
    return tree_below(root, [fates for _, fates in wants])


def certificate(one, other, level):
    """Return an entry for each pair by form that no row has, or None if the engines are not alike."""
    if difference(one, other, level) is not None:
        return None
    had = joint_fates(one.plan, other.plan)
    root = outline(one.columns, [one.plan, other.plan])
    pairs = [pair for pair in pairs_by_form(one, other) if pair not in had]
    return [(f, g, tree_below(root, [(f,), (g,)])) for f, g in pairs]


def certificate_fault(one, other, level, certificate):
    """Return the first fault of the object as a certificate, or None if it is right."""
    check_level(level)
    check_alike(one, other)
    index = first_wrong(one, other, certificate)
    if index is not None:
        return ("tree", index)
    named = [(f, g) for f, g, _ in certificate]
    left = [pair for pair in pairs_by_form(one, other) if pair not in named]
    return None if shortest_word(one, other, level, left) is None else ("table",)


def first_wrong(one, other, thing):
    """Return the index of the first wrong entry, -1 if the object is no list, None if all are right."""
    if not isinstance(thing, list):
        return -1
    # All trees are about the same two plans, so what their ends need is worked out once.
    prospects = (Prospect(one.plan), Prospect(other.plan))
    pairs = pairs_by_form(one, other)
    last = -1
    for index, entry in enumerate(thing):
        at = index_of_pair(pairs, entry)
        if at is None or at <= last or not entry_closes(one.columns, prospects, entry):
            return index
        last = at
    return None


def index_of_pair(pairs, entry):
    """Return the index of the pair of the entry, or None if it is no entry with such a pair."""
    if not isinstance(entry, tuple) or len(entry) != 3 or entry[:2] not in pairs:
        return None
    return pairs.index(entry[:2])


def entry_closes(columns, prospects, entry):
    """Tell whether the tree of an entry shows that no row has its pair of fates."""
    first, second = prospects
    f, g, tree = entry
    return closes_below(columns, [(first, (f,)), (second, (g,))], Branch({}, {}), tree)


def pairs_by_form(one, other):
    """Return the list of all pairs of fates that the forms of the plans of two engines allow."""
    return [(f, g) for f in fates_by_form(one.plan) for g in fates_by_form(other.plan)]
