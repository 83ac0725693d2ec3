"""What several tests need: objects of many kinds, and signatures found without the program."""

from itertools import product

from batchtests.columns import Columns
from batchtests.errors import BatchError, NoRow

OTHER_OBJECTS = [
    None, True, False, 0, 1, -1, 10 ** 100, 1.5, float("nan"), 2j,
    b"", b"a", bytearray(b"a"), memoryview(b"a"), [], ["a"], (), ("a",), {}, {"a": 1},
    set(), {"a"}, frozenset({"a"}), range(3), slice(1), iter(()), (x for x in ()),
    object(), int, str, len, lambda: "a", Ellipsis, NotImplemented, ValueError("a"),
    Columns("a"), BatchError("a"), NoRow("a"), NoRow,
]

NOT_NAMES = [
    "", "abcdefghi", "and", "case", "else", "is", "missing", "must", "not", "or",
    "A", "aB", "a1", "1", "a_b", "_", "a b", " a", "a ", "a\n", "a-b", "\u00e4", "\u00df", "\uff41", "a\u0301", "\0",
]


def signature(row, literals):
    """The missing columns of the row, and the truths of the literals without a missing column."""
    value = {**row, "": 0}
    truths = []
    for a, b, n in sorted(set(literals)):
        if value[a] is None or value[b] is None:
            truths.append(None)
        else:
            truths.append(value[a] <= value[b] + n)
    return tuple(name for name in sorted(row) if row[name] is None), tuple(truths)


def signatures_on(names, literals, values):
    """All signatures of the rows whose values are taken from the given ones or missing."""
    found = set()
    for taken in product([None, *values], repeat=len(names)):
        found.add(signature(dict(zip(names, taken)), literals))
    return found
