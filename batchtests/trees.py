"""Trees that show that no row meets all wants of a claim."""

from batchtests.branches import Branch, Prospect, sides_of
from batchtests.literals import is_literal
from batchtests.rings import is_ring
from batchtests.truthwords import NO
from batchtests.wants import check_wants

# The number of items of each form, its word included.
LENGTHS = {"missing": 4, "test": 4, "ring": 2, "settled": 1}


def closes(columns, wants, tree):
    """Tell whether the object is a tree that closes for the claim."""
    check_wants(columns, wants)
    prospects = [(Prospect(plan), fates) for plan, fates in wants]
    return closes_below(columns, prospects, Branch({}, {}), tree)


def closes_below(columns, prospects, branch, tree):
    """Tell whether the object is a tree that closes for the claim at the end of the branch."""
    if not has_tree_form(tree):
        return False
    word = tree[0]
    if word == "ring":
        return is_ring(branch.steps(), tree[1])
    if word == "settled":
        return is_settled(prospects, branch)
    if not may_ask(columns, branch, word, tree[1]):
        return False
    first, second = sides_of(branch, word, tree[1])
    return closes_below(columns, prospects, first, tree[2]) and closes_below(columns, prospects, second, tree[3])


def has_tree_form(thing):
    """Tell whether the object is a tuple with the word and the length of a tree."""
    if not isinstance(thing, tuple) or not thing or not isinstance(thing[0], str):
        return False
    return thing[0] in LENGTHS and len(thing) == LENGTHS[thing[0]]


def is_settled(prospects, branch):
    """Tell whether some want is not met, whatever the branch leaves open."""
    for prospect, fates in prospects:
        if not prospect.can_meet(branch, fates):
            return True
    return False


def may_ask(columns, branch, word, thing):
    """Tell whether the object is a column or a literal that may be asked at the end of the branch."""
    if word == "missing":
        return thing in columns and thing not in branch.asked
    if not is_literal(columns, thing) or thing in branch.tested:
        return False
    return all([term == "" or branch.asked.get(term) == NO for term in thing[:2]])
