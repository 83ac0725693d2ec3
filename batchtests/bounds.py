"""Bounds: which differences between the values of terms some literals allow.

Bounds are a dict from pairs of terms (a, b) to the least n for which the literals imply that
a is at most b plus n. A pair without such an n is no key. Each term has the key (a, a).
Bounds are never changed; a tighter dict is made instead.
"""


def opposite(literal):
    """Return the literal that holds just where this one does not."""
    a, b, n = literal
    # For integers, "a is more than b + n" means "b is at most a - n - 1".
    return (b, a, -n - 1)


def free_bounds(terms):
    """Return the bounds of terms that no literal binds."""
    return {(term, term): 0 for term in terms}


def implies(bounds, literal):
    """Tell whether all values that keep the bounds keep the literal."""
    a, b, n = literal
    return (a, b) in bounds and bounds[(a, b)] <= n


def excludes(bounds, literal):
    """Tell whether no values that keep the bounds keep the literal."""
    return implies(bounds, opposite(literal))


def tightened(bounds, literal):
    """Return the bounds with the literal added, which they must not exclude."""
    a, b, n = literal
    before = [(term, m) for (term, end), m in bounds.items() if end == a]
    after = [(term, m) for (start, term), m in bounds.items() if start == b]
    closer = {pair: m for pair, m in bounds.items()}
    for first, m in before:
        for last, k in after:
            pair = (first, last)
            if pair not in closer or m + n + k < closer[pair]:
                closer[pair] = m + n + k
    return closer


def values_within(bounds):
    """Return a dict with a value for each term that keeps the bounds, with 0 for the term ""."""
    # The bounds are closed (bound(a, c) <= bound(a, b) + bound(b, c)), so the least bounds of
    # the terms keep all bounds between them.
    least = {}
    for (term, _), m in bounds.items():
        if term not in least or m < least[term]:
            least[term] = m
    return {term: m - least[""] for term, m in least.items()}
