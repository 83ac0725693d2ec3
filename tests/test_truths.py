"""The rows with a truth, and conditions that are compared (points 5.2 and 5.3)."""

import random
import unittest
from itertools import combinations, product

from batchtests.columns import Columns
from batchtests.conditions import Condition
from batchtests.errors import NoTruth, Unlike
from batchtests.rowsets import RowSet, all_rows, no_rows
from batchtests.truths import implied, truth, truth_difference, truth_rows
from helper import NOT_NAMES, OTHER_OBJECTS, random_literals, random_part, rows_by_signature

BIG = 10 ** 99
AB = Columns("a", "b")
LOW = ("must", "low", ("", "a", 0), ("atmost", "a", "", 9))
HIGH = ("must", "high", ("b", "", 5), ("atmost", "b", "a", 0))
ONE = ("atmost", "a", "", 3)
TWO = ("atmost", "b", "a", -1)
NEVER = ("and", (("atmost", "a", "", 0), ("atmost", "", "a", -1)))


def random_conditions(names, many, depth, seed, literals=3):
    """Conditions, each with one row for each signature of its literals and some others."""
    chance = random.Random(seed)
    for _ in range(many):
        pool = random_literals(chance, names, literals, 2)
        condition = Condition(Columns(*names), random_part(chance, names, pool, depth))
        yield condition, pool, rows_by_signature(names, pool, range(-4 * len(names), 4 * len(names) + 1))


class TestTruthRows(unittest.TestCase):
    def check(self, condition, rows):
        wanted = ["yes", "no", "unknown"] + [("fails", code) for code in condition.codes()]
        sets = [truth_rows(condition, one) for one in wanted]
        whole = no_rows(condition.columns)
        for one, found in zip(wanted, sets):
            self.assertIsInstance(found, RowSet)
            self.assertEqual(found.columns, condition.columns)
            for row in rows:
                self.assertIs(row in found, truth(condition, row) == one)
            self.assertIs(found.is_empty(), not any(truth(condition, row) == one for row in rows))
            if not found.is_empty():
                self.assertEqual(truth(condition, found.some()), one)
            self.assertEqual(RowSet(found.columns, found.cases), found)
            whole = whole | found
        self.assertEqual(whole, all_rows(condition.columns))
        for one, other in combinations(sets, 2):
            self.assertTrue((one & other).is_empty())
            self.assertTrue(one.within(~other))

    def test_the_example(self):
        condition = Condition(AB, ("and", (LOW, HIGH)))
        self.check(condition, rows_by_signature("ab", condition.literals(), range(-12, 13)))
        self.assertIn({"a": 1, "b": None}, truth_rows(condition, "unknown"))
        self.assertIn({"a": 1, "b": 9}, truth_rows(condition, ("fails", "high")))
        self.assertNotIn({"a": -1, "b": 9}, truth_rows(condition, ("fails", "high")))

    def test_each_form(self):
        for part in [ONE, ("missing", "b"), LOW, ("not", HIGH), ("or", (LOW, ONE)), NEVER, ("and", (ONE, TWO, HIGH)),
                     ("case", ((LOW, TWO), (("missing", "b"), HIGH)), ("not", ONE))]:
            condition = Condition(AB, part)
            self.check(condition, rows_by_signature("ab", condition.literals(), range(-12, 16)))

    def test_random_conditions(self):
        for names, many in [("a", 10), ("ab", 25), ("cab", 4)]:
            for condition, _, rows in random_conditions(names, many, 4, 31):
                self.check(condition, rows)

    def test_great_numbers(self):
        values = [k * BIG + n for k in range(-3, 4) for n in range(-2, 3)]
        condition = Condition(AB, ("or", (("atmost", "a", "", BIG), ("must", "x", ("a", "b", BIG - 1), TWO))))
        self.check(condition, rows_by_signature("ab", condition.literals(), values))

    def test_a_code_that_does_not_occur(self):
        condition = Condition(AB, ("and", (LOW, HIGH)))
        for code in ["other", "x", "a", "b"]:
            self.assertEqual(truth_rows(condition, ("fails", code)), no_rows(AB))
        self.assertEqual(truth_rows(Condition(AB, ONE), ("fails", "low")), no_rows(AB))

    def test_objects_that_are_no_truths(self):
        condition = Condition(AB, ("and", (LOW, HIGH)))
        wrong = [*OTHER_OBJECTS, "", "Yes", "yes ", "fails", "selected", "low", "unknow", b"yes", ("yes",), ["yes"],
                 ["fails", "low"], ("fails",), ("fails", "low", 1), ("fails", "low", "low"), ("no", "a"), ("yes", "a"),
                 ("unknown", "low"), ("fail", "low"), ("low", "fails"), ("fails", ("low",)), {"fails": "low"},
                 ("Fails", "low"), ("fails", b"low"), (b"fails", "low"), ("fails", True)]
        for thing in [*wrong, *[("fails", code) for code in [*NOT_NAMES, *OTHER_OBJECTS]],
                      *[(thing, "low") for thing in OTHER_OBJECTS]]:
            with self.assertRaises(NoTruth):
                truth_rows(condition, thing)
        with self.assertRaises(NoTruth):
            truth_rows(condition, ("fails", "must"))

    def test_arguments_by_name(self):
        condition = Condition(AB, ("not", ONE))
        self.assertEqual(truth_rows(wanted="no", condition=condition), RowSet(AB, (
            ((), (("a", "", 3),)), (("b",), (("a", "", 3),)))))


class TestCompared(unittest.TestCase):
    def alike(self, one, other):
        first, second = Condition(AB, one), Condition(Columns("a", "b"), other)
        self.assertIsNone(truth_difference(first, second))
        self.assertIsNone(truth_difference(second, first))
        self.assertIsNone(implied(first, second))
        self.assertIsNone(implied(second, first))

    def unlike(self, one, other):
        first, second = Condition(AB, one), Condition(AB, other)
        for a, b in [(first, second), (second, first)]:
            row = truth_difference(a, b)
            self.assertEqual(AB.row(row), row)
            self.assertNotEqual(truth(a, row), truth(b, row))

    def test_equal_conditions_in_other_forms(self):
        for part in [ONE, TWO, LOW, HIGH, ("missing", "a"), ("or", (LOW, HIGH)), ("case", ((HIGH, LOW),), TWO)]:
            self.alike(part, part)
            self.alike(part, ("not", ("not", part)))
            self.alike(part, ("and", (part,)))
            self.alike(("or", (part,)), part)
            self.alike(part, ("and", (part, part)))
            self.alike(part, ("case", ((NEVER, LOW),), part))
            self.alike(part, ("case", ((("not", ("or", (("missing", "a"), ("not", NEVER)))), HIGH), (NEVER, ONE)), part))
            self.alike(part, ("case", ((("missing", "b"), part),), part))

    def test_or_as_an_and_of_nots(self):
        for parts in product([ONE, LOW, HIGH, ("missing", "b")], repeat=3):
            nots = tuple(("not", part) for part in parts)
            self.alike(("and", parts), ("not", ("or", nots)))
            self.alike(("or", parts), ("not", ("and", nots)))

    def test_literals_that_say_the_same_in_another_way(self):
        self.alike(ONE, ("not", ("atmost", "", "a", -4)))
        self.alike(("atmost", "a", "b", 2), ("not", ("atmost", "b", "a", -3)))
        self.alike(ONE, ("and", (ONE, ("atmost", "a", "", 4))))
        self.alike(("and", (ONE, TWO)), ("and", (ONE, TWO, ("or", (("atmost", "b", "", 2), ("missing", "a"))))))
        self.unlike(("and", (ONE, TWO)), ("and", (ONE, TWO, ("atmost", "b", "", 1))))
        self.unlike(ONE, ("not", ("atmost", "", "a", -3)))

    def test_unlike_conditions(self):
        parts = [ONE, TWO, LOW, HIGH, NEVER, ("missing", "a"), ("missing", "b"), ("not", ONE), ("or", (LOW, HIGH)),
                 ("or", (HIGH, LOW)), ("and", (LOW, HIGH)), ("and", (HIGH, LOW)), ("atmost", "a", "", 4)]
        for one, other in combinations(parts, 2):
            self.unlike(one, other)

    def test_codes_count(self):
        self.unlike(LOW, ("must", "high", ("", "a", 0), ("atmost", "a", "", 9)))
        first, second = Condition(AB, LOW), Condition(AB, ("must", "high", ("", "a", 0), ("atmost", "a", "", 9)))
        row = truth_difference(first, second)
        self.assertEqual((truth(first, row), truth(second, row)), (("fails", "low"), ("fails", "high")))
        self.assertIsNone(implied(first, second))

    def test_a_difference_in_one_row_alone(self):
        only = ("and", (("atmost", "a", "", 7), ("atmost", "", "a", -7), ("atmost", "b", "a", -10),
                        ("atmost", "a", "b", 10)))
        row = truth_difference(Condition(AB, only), Condition(AB, ("and", (only, NEVER))))
        self.assertEqual(row, {"a": 7, "b": -3})
        self.assertEqual(implied(Condition(AB, only), Condition(AB, NEVER)), {"a": 7, "b": -3})
        self.assertIsNone(implied(Condition(AB, NEVER), Condition(AB, only)))
        full = ("or", (ONE, ("not", ONE), ("missing", "a")))
        hole = ("or", (("not", only), ("missing", "a"), ("missing", "b")))
        self.assertEqual(implied(Condition(AB, full), Condition(AB, hole)), {"a": 7, "b": -3})

    def test_implied(self):
        two, three = Condition(AB, ("atmost", "a", "", 2)), Condition(AB, ONE)
        self.assertIsNone(implied(two, three))
        row = implied(three, two)
        self.assertEqual(row["a"], 3)
        self.assertEqual(AB.row(row), row)
        # Rows that are unknown or fail for the second one are not "yes" for it.
        both = Condition(AB, ("and", (ONE, TWO)))
        row = implied(three, both)
        self.assertEqual(truth(three, row), "yes")
        self.assertNotEqual(truth(both, row), "yes")
        guarded = Condition(AB, ("must", "x", ("a", "", 2), ONE))
        self.assertEqual(implied(three, guarded)["a"], 3)
        self.assertIsNone(implied(guarded, three))
        unknown = Condition(AB, ("or", (("and", (ONE, ("not", ("missing", "b")))), TWO)))
        row = implied(three, unknown)
        self.assertEqual((truth(three, row), truth(unknown, row)), ("yes", "unknown"))

    def test_random_conditions(self):
        for condition, pool, rows in random_conditions("ab", 40, 4, 33):
            chance = random.Random(repr(condition.part))
            other = Condition(condition.columns, random_part(chance, "ab", pool, 3))
            differ = [row for row in rows if truth(condition, row) != truth(other, row)]
            row = truth_difference(condition, other)
            self.assertIs(row is None, not differ)
            if row is not None:
                self.assertNotEqual(truth(condition, row), truth(other, row))
            alone = [row for row in rows if truth(condition, row) == "yes" != truth(other, row)]
            row = implied(condition, other)
            self.assertIs(row is None, not alone)
            if row is not None:
                self.assertEqual(truth(condition, row), "yes")
                self.assertNotEqual(truth(other, row), "yes")
            yes = truth_rows(condition, "yes")
            self.assertIs(yes.within(truth_rows(other, "yes")), not alone)

    def test_unlike_columns(self):
        for names in [("b", "a"), ("a",), ("a", "b", "c"), ("a", "c")]:
            one, other = Condition(AB, ("missing", "a")), Condition(Columns(*names), ("missing", "a"))
            for compare in [implied, truth_difference]:
                with self.assertRaises(Unlike):
                    compare(one, other)
                with self.assertRaises(Unlike):
                    compare(other, one)
                with self.assertRaises(Unlike):
                    compare(other=one, condition=other)

    def test_rows_are_new(self):
        one, other = Condition(AB, ONE), Condition(AB, TWO)
        for compare in [implied, truth_difference]:
            first, second = compare(one, other), compare(one, other)
            self.assertEqual(first, second)
            self.assertIsNot(first, second)


class TestLimits(unittest.TestCase):
    def great(self, seed):
        """A condition over 4 columns with 6 unlike literals, 20 parts, 6 within one another."""
        chance = random.Random(seed)
        n = 10 ** 99
        pool = [(*chance.sample(["", "a", "b", "c", "d"], 2), chance.choice([-n, 0, n, n - 1]) + k) for k in range(6)]
        tests = [("atmost", *literal) for literal in pool]
        deep = ("not", ("must", "p", pool[0], ("or", (tests[1], ("missing", "d")))))
        return ("and", (
            ("case", ((tests[2], tests[3]), (("must", "q", pool[4], tests[5]), ("missing", "a"))), tests[0]),
            ("or", (deep, ("must", "q", pool[3], tests[1]))),
            ("not", tests[4]),
            ("or", (tests[2],)),
        )), pool

    def test_great_conditions(self):
        columns = Columns(*"abcd")
        for seed in range(3):
            part, pool = self.great(seed)
            condition = Condition(columns, part)
            self.assertEqual(len(condition.places()), 20)
            self.assertEqual(max(len(place) for place in condition.places()), 5)
            self.assertLessEqual(len(condition.literals()), 6)
            sets = [truth_rows(condition, one) for one in ["yes", "no", "unknown", ("fails", "p"), ("fails", "q")]]
            whole = no_rows(columns)
            for found in sets:
                self.assertTrue((whole & found).is_empty())
                whole = whole | found
            self.assertEqual(whole, all_rows(columns))
            self.assertEqual(~sets[0], all_rows(columns) - sets[0])
            self.assertIsNone(truth_difference(condition, Condition(columns, ("not", ("not", part)))))
            self.assertIsNone(implied(condition, condition))
            other = Condition(columns, ("and", tuple(reversed(part[1]))))
            row = truth_difference(condition, other)
            if row is not None:
                self.assertNotEqual(truth(condition, row), truth(other, row))

    def test_beyond_the_limits(self):
        part = ("missing", "a")
        for _ in range(35):
            part = ("not", part)
        condition = Condition(AB, part)
        self.assertEqual(truth(condition, {"a": None, "b": 1}), "no")
        self.assertEqual(len(condition.places()), 36)
        part = ("or", tuple(("and", tuple(("atmost", "a", "b", 4 * k + m) for m in range(4))) for k in range(3)))
        condition = Condition(AB, part)
        self.assertEqual(len(condition.literals()), 12)
        self.assertEqual(truth_rows(condition, "yes"), RowSet(AB, (((), (("a", "b", 8),)),)))


if __name__ == "__main__":
    unittest.main()
