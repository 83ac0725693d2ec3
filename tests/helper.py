"""What several tests need: objects of many kinds, and answers found without the program."""

from itertools import product

from batchtests.columns import Columns
from batchtests.conditions import Condition
from batchtests.errors import BatchError, NoRow
from batchtests.rowsets import RowSet

OTHER_OBJECTS = [
    None, True, False, 0, 1, -1, 10 ** 100, 1.5, float("nan"), 2j,
    b"", b"a", bytearray(b"a"), memoryview(b"a"), [], ["a"], (), ("a",), {}, {"a": 1},
    set(), {"a"}, frozenset({"a"}), range(3), slice(1), iter(()), (x for x in ()),
    object(), int, str, len, lambda: "a", Ellipsis, NotImplemented, ValueError("a"),
    Columns("a"), BatchError("a"), NoRow("a"), NoRow, RowSet(Columns("a"), ()), RowSet,
    Condition(Columns("a"), ("missing", "a")), [[]], ((),), ([],), ("a", []), {"a": []},
]

NOT_NAMES = [
    "", "abcdefghi", "and", "case", "else", "is", "missing", "must", "not", "or",
    "A", "aB", "a1", "1", "a_b", "_", "a b", " a", "a ", "a\n", "a-b", "\u00e4", "\u00df", "\uff41", "a\u0301", "\0",
]


def holds(row, literal):
    """True or False, or None if a column of the literal is missing."""
    value = {**row, "": 0}
    a, b, n = literal
    if value[a] is None or value[b] is None:
        return None
    return value[a] <= value[b] + n


def signature(row, literals):
    """The missing columns of the row, and the truths of the literals without a missing column."""
    truths = [holds(row, literal) for literal in sorted(set(literals))]
    return tuple(name for name in sorted(row) if row[name] is None), tuple(truths)


def grid(names, values):
    """All rows whose values are taken from the given ones or missing."""
    return [dict(zip(names, taken)) for taken in product([None, *values], repeat=len(names))]


def signatures_on(names, literals, values):
    """All signatures of the rows whose values are taken from the given ones or missing."""
    return {signature(row, literals) for row in grid(names, values)}


def rows_by_signature(names, literals, values):
    """One row for each signature of the rows whose values are taken from the given ones or missing."""
    found = {}
    for row in grid(names, values):
        found.setdefault(signature(row, literals), row)
    return list(found.values())


def fits(row, cases):
    """Whether the row fits one of the cases at least."""
    for missing, literals in cases:
        gone = {name for name in row if row[name] is None}
        if gone == set(missing) and all(holds(row, literal) for literal in literals):
            return True
    return False


def random_literals(chance, names, many, bound):
    """A list of random literals with numbers up to the bound."""
    found = []
    for _ in range(many):
        a, b = chance.sample(["", *names], 2)
        found.append((a, b, chance.randint(-bound, bound)))
    return found


def random_part(chance, names, literals, depth, codes="xyz"):
    """A random part over some of the literals, at most so deep."""
    word = chance.choice(["atmost", "missing", "must", "not", "and", "or", "case"]) if depth > 1 else "atmost"
    if word == "atmost":
        if chance.random() < 0.2:
            return ("missing", chance.choice(names))
        return ("atmost", *chance.choice(literals))
    if word == "missing":
        return ("missing", chance.choice(names))

    def inner():
        return random_part(chance, names, literals, depth - 1, codes)

    if word == "must":
        return ("must", chance.choice(codes), chance.choice(literals), inner())
    if word == "not":
        return ("not", inner())
    if word == "case":
        return ("case", tuple((inner(), inner()) for _ in range(chance.randint(1, 3))), inner())
    return (word, tuple(inner() for _ in range(chance.randint(1, 4))))
