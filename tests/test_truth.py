"""The truth of a condition for one row (point 5.1)."""

import unittest
from itertools import product

from batchtests.columns import Columns
from batchtests.conditions import Condition
from batchtests.errors import NoRow
from batchtests.truths import truth
from helper import OTHER_OBJECTS

MOST = 10 ** 100 - 1
AB = Columns("a", "b")
# In the row {"a": 0, "b": None} each of these parts has the truth beside it.
ROW = {"a": 0, "b": None}
YES = ("atmost", "a", "", 0)
NO = ("atmost", "a", "", -1)
UNKNOWN = ("atmost", "b", "", 0)
FAILED = ("must", "x", ("a", "", -1), YES)
OTHER = ("must", "y", ("a", "", -1), NO)
KNOWN = [(YES, "yes"), (NO, "no"), (UNKNOWN, "unknown"), (FAILED, ("fails", "x")), (OTHER, ("fails", "y"))]


def of(part, row=None):
    return truth(Condition(AB, part), ROW if row is None else row)


def first_decided(truths, decides, otherwise):
    """The truth of an "and" or an "or" whose parts have these truths."""
    for found in truths:
        if found == decides or type(found) is tuple:
            return found
    return "unknown" if "unknown" in truths else otherwise


def of_case(tests, chosen, last):
    """The truth of a "case" whose parts have these truths."""
    for test, found in zip(tests, chosen):
        if type(test) is tuple:
            return test
        if test == "yes":
            return found
    return last


class TestForms(unittest.TestCase):
    def test_the_parts_that_the_others_use(self):
        for part, expected in KNOWN:
            self.assertEqual(of(part), expected)

    def test_atmost(self):
        for a, b, n in product(range(-2, 3), range(-2, 3), (-1, 0, 2)):
            row = {"a": a, "b": b}
            self.assertEqual(of(("atmost", "a", "b", n), row), "yes" if a <= b + n else "no")
            self.assertEqual(of(("atmost", "b", "a", n), row), "yes" if b <= a + n else "no")
            self.assertEqual(of(("atmost", "a", "", n), row), "yes" if a <= n else "no")
            self.assertEqual(of(("atmost", "", "b", n), row), "yes" if 0 <= b + n else "no")

    def test_atmost_with_missing_values(self):
        for row in [{"a": None, "b": 1}, {"a": 1, "b": None}, {"a": None, "b": None}]:
            self.assertEqual(of(("atmost", "a", "b", 0), row), "unknown")
        self.assertEqual(of(("atmost", "a", "", 0), {"a": None, "b": 1}), "unknown")
        self.assertEqual(of(("atmost", "", "a", 0), {"a": None, "b": 1}), "unknown")
        self.assertEqual(of(("atmost", "a", "", 0), {"a": 0, "b": None}), "yes")
        self.assertEqual(of(("atmost", "", "a", 0), {"a": -1, "b": None}), "no")

    def test_great_numbers(self):
        self.assertEqual(of(("atmost", "a", "b", MOST), {"a": MOST, "b": 0}), "yes")
        self.assertEqual(of(("atmost", "a", "b", MOST), {"a": MOST, "b": -1}), "no")
        self.assertEqual(of(("atmost", "a", "b", -MOST), {"a": 0, "b": MOST}), "yes")
        self.assertEqual(of(("atmost", "a", "b", -MOST), {"a": 0, "b": MOST - 1}), "no")

    def test_missing(self):
        for name, other in ["ab", "ba"]:
            self.assertEqual(of(("missing", name), {name: None, other: 1}), "yes")
            self.assertEqual(of(("missing", name), {name: 0, other: None}), "no")
            self.assertEqual(of(("missing", name), {name: -5, other: 0}), "no")

    def test_must(self):
        for part, expected in KNOWN:
            self.assertEqual(of(("must", "z", ("a", "", 0), part)), expected)
            self.assertEqual(of(("must", "z", ("", "a", -1), part)), ("fails", "z"))
            self.assertEqual(of(("must", "z", ("b", "", 0), part)), "unknown")
            self.assertEqual(of(("must", "z", ("a", "b", -1), part)), "unknown")
            self.assertEqual(of(("must", "z", ("b", "a", 0), part)), "unknown")

    def test_must_within_must(self):
        inner = ("must", "in", ("a", "", -1), YES)
        self.assertEqual(of(("must", "out", ("a", "", 0), inner)), ("fails", "in"))
        self.assertEqual(of(("must", "out", ("a", "", -1), inner)), ("fails", "out"))
        self.assertEqual(of(("must", "out", ("b", "", -1), inner)), "unknown")

    def test_not(self):
        exchanged = {"yes": "no", "no": "yes"}
        for part, expected in KNOWN:
            self.assertEqual(of(("not", part)), exchanged.get(expected, expected))
            self.assertEqual(of(("not", ("not", part))), expected)

    def test_and_and_or(self):
        for many in (1, 2, 3, 4):
            for chosen in product(KNOWN, repeat=many):
                parts = tuple(part for part, _ in chosen)
                truths = [found for _, found in chosen]
                self.assertEqual(of(("and", parts)), first_decided(truths, "no", "yes"))
                self.assertEqual(of(("or", parts)), first_decided(truths, "yes", "no"))

    def test_unknown_before_and_after_a_failure(self):
        for word in ["and", "or"]:
            self.assertEqual(of((word, (UNKNOWN, FAILED))), ("fails", "x"))
            self.assertEqual(of((word, (FAILED, UNKNOWN))), ("fails", "x"))
            self.assertEqual(of((word, (UNKNOWN, OTHER, FAILED))), ("fails", "y"))
        self.assertEqual(of(("and", (UNKNOWN, NO, FAILED))), "no")
        self.assertEqual(of(("and", (UNKNOWN, FAILED, NO))), ("fails", "x"))
        self.assertEqual(of(("or", (UNKNOWN, YES, FAILED))), "yes")
        self.assertEqual(of(("or", (NO, UNKNOWN, FAILED, YES))), ("fails", "x"))

    def test_case(self):
        for test, inside, last in product(KNOWN, KNOWN, KNOWN):
            part = ("case", ((test[0], inside[0]),), last[0])
            self.assertEqual(of(part), of_case([test[1]], [inside[1]], last[1]))
        for tests in product(KNOWN, repeat=2):
            for inside, last in product(KNOWN[:4], KNOWN[1:]):
                branches = ((tests[0][0], OTHER), (tests[1][0], inside[0]))
                expected = of_case([tests[0][1], tests[1][1]], [("fails", "y"), inside[1]], last[1])
                self.assertEqual(of(("case", branches, last[0])), expected)

    def test_case_with_three_branches(self):
        inside = [("must", code, ("a", "", -1), YES) for code in ("p", "q", "r", "s")]
        for tests in product(KNOWN, repeat=3):
            part = ("case", tuple((test[0], chosen) for test, chosen in zip(tests, inside)), inside[3])
            truths = [test[1] for test in tests]
            expected = of_case(truths, [("fails", code) for code in "pqr"], ("fails", "s"))
            self.assertEqual(of(part), expected)

    def test_failures_within_each_form(self):
        for part, code in [(FAILED, "x"), (OTHER, "y")]:
            around = [
                ("not", part), ("must", "z", ("a", "", 0), part), ("and", (YES, part, NO)), ("or", (NO, part, YES)),
                ("case", ((part, YES),), NO), ("case", ((YES, part),), NO), ("case", ((NO, YES),), part),
                ("case", ((UNKNOWN, YES), (part, YES)), NO),
            ]
            for one in around:
                self.assertEqual(of(one), ("fails", code))
                self.assertEqual(of(("not", ("and", (UNKNOWN, one)))), ("fails", code))
                self.assertEqual(of(("case", ((NO, YES),), ("or", (UNKNOWN, one)))), ("fails", code))

    def test_parts_that_are_not_reached_do_not_fail(self):
        self.assertEqual(of(("and", (NO, FAILED))), "no")
        self.assertEqual(of(("or", (YES, FAILED))), "yes")
        self.assertEqual(of(("case", ((YES, NO), (FAILED, FAILED)), FAILED)), "no")
        self.assertEqual(of(("case", ((NO, FAILED),), YES)), "yes")
        self.assertEqual(of(("must", "z", ("b", "", 0), FAILED)), "unknown")

    def test_kinds(self):
        for part, expected in KNOWN:
            self.assertIs(type(of(part)), type(expected))
        self.assertIs(type(of(FAILED)[0]), str)


class TestRow(unittest.TestCase):
    condition = Condition(AB, ("and", (NO, FAILED)))

    def wrong(self, name, row):
        with self.assertRaises(NoRow) as caught:
            truth(self.condition, row)
        self.assertEqual(caught.exception.name, name)

    def test_objects_that_are_no_rows(self):
        for thing in OTHER_OBJECTS:
            if not isinstance(thing, dict):
                self.wrong(None, thing)
        self.wrong("a", {})
        self.wrong("a", {"b": True})
        self.wrong("b", {"a": 1})
        self.wrong("a", {"a": True, "b": 1})
        self.wrong("b", {"a": 1, "b": False, "c": 1})
        self.wrong("b", {"a": None, "b": 1.0})
        self.wrong(None, {"a": 1, "b": None, "c": 1})

    def test_a_column_that_the_condition_does_not_use_counts(self):
        condition = Condition(AB, ("missing", "a"))
        with self.assertRaises(NoRow) as caught:
            truth(condition, {"a": 1, "b": "x"})
        self.assertEqual(caught.exception.name, "b")

    def test_the_row_stays_as_it_is(self):
        row = {"b": 3, "a": None}
        self.assertEqual(truth(self.condition, row), "unknown")
        self.assertEqual(list(row.items()), [("b", 3), ("a", None)])

    def test_arguments_by_name(self):
        self.assertEqual(truth(row={"a": 5, "b": 0}, condition=self.condition), "no")

    def test_the_example(self):
        first = ("must", "low", ("", "a", 0), ("atmost", "a", "", 9))
        second = ("must", "high", ("b", "", 5), ("atmost", "b", "a", 0))
        condition = Condition(AB, ("and", (first, second)))
        self.assertEqual(truth(condition, {"a": 1, "b": None}), "unknown")
        self.assertEqual(truth(condition, {"a": 1, "b": 9}), ("fails", "high"))
        self.assertEqual(truth(condition, {"a": 20, "b": 9}), "no")
        self.assertEqual(truth(condition, {"a": -1, "b": 0}), ("fails", "low"))
        self.assertEqual(truth(condition, {"a": 3, "b": 2}), "yes")


if __name__ == "__main__":
    unittest.main()
