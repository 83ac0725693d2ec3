"""Wants: pairs of a plan and a tuple of fates."""

from batchtests.errors import BadWants, Unlike
from batchtests.parts import is_pair
from batchtests.plans import Plan


def check_wants(columns, wants):
    """Raise BadWants if these are no wants, and Unlike if a plan has other columns."""
    if not isinstance(wants, list):
        raise BadWants(-1)
    for index, want in enumerate(wants):
        if not is_want(want):
            raise BadWants(index)
    for plan, _ in wants:
        if plan.columns != columns:
            raise Unlike()


def is_want(thing):
    """Tell whether the object is a pair of a plan and a tuple."""
    return is_pair(thing) and isinstance(thing[0], Plan) and isinstance(thing[1], tuple)
