import random
import unittest
from itertools import combinations

from batchtests.columns import Columns
from batchtests.samples import samples
from helper import signature, signatures_on

BIG = 10 ** 99
MOST = 10 ** 100 - 1


class TestSamples(unittest.TestCase):
    def found(self, names, literals):
        """The signatures of the samples, after the check that each is a row and stands for its own."""
        columns = Columns(*names)
        rows = samples(columns, literals)
        self.assertIs(type(rows), list)
        for row in rows:
            self.assertIs(type(row), dict)
            self.assertEqual(columns.row(row), row)
        found = [signature(row, literals) for row in rows]
        self.assertEqual(len(found), len(set(found)))
        return set(found)

    def check(self, names, literals, values):
        """The values must be enough to reach each signature that some row has."""
        self.assertEqual(self.found(names, literals), signatures_on(names, literals, values))

    def count(self, many, names, literals):
        self.assertEqual(len(self.found(names, literals)), many)

    def test_the_example(self):
        rows = samples(Columns("a"), (("a", "", 0), ("", "a", -1)))
        self.assertEqual(len(rows), 3)
        self.assertEqual(len([row for row in rows if row["a"] is None]), 1)
        self.assertEqual(len([row for row in rows if row["a"] is not None and row["a"] <= 0]), 1)
        self.assertEqual(len([row for row in rows if row["a"] is not None and row["a"] >= 1]), 1)

    def test_arguments_by_name(self):
        rows = samples(literals=(("a", "", 0),), columns=Columns("a"))
        self.assertEqual(len(rows), 3)

    def test_no_literals(self):
        for names in ["a", "ab", "bac", "dcba"]:
            self.count(2 ** len(names), names, ())
            missing = [tuple(n for n in names if row[n] is None) for row in samples(Columns(*names), ())]
            self.assertEqual(len(set(missing)), 2 ** len(names))

    def test_one_literal(self):
        for n in range(-3, 4):
            self.check("a", (("a", "", n),), range(-8, 9))
            self.check("a", (("", "a", n),), range(-8, 9))
            self.check("ab", (("b", "a", n),), range(-8, 9))
            self.count(3, "a", (("a", "", n),))
            self.count(5, "ab", (("a", "b", n),))

    def test_a_literal_that_stands_twice(self):
        one = ("a", "b", 1)
        other = ("", "b", -2)
        once = self.found("ab", (one, other))
        for literals in [(one, other, one), (one, one, other, other), (other, one, other, one, one)]:
            self.assertEqual(self.found("ab", literals), once)
        self.count(3, "a", (("a", "", 5), ("a", "", 5)))

    def test_literals_of_missing_columns_have_no_truth(self):
        literals = (("a", "", 0), ("b", "", 0), ("a", "b", 0))
        # Both missing: 1. One missing: 2 each. None missing: all of the eight but two.
        self.count(1 + 2 + 2 + 6, "ab", literals)
        self.check("ab", literals, range(-4, 5))

    def test_columns_that_no_literal_has(self):
        self.count(2 * 2 * 2 * 3, "abcd", (("c", "", 7),))

    def test_literals_that_exclude_one_another(self):
        self.count(1 + 2, "a", (("a", "", 5), ("", "a", -6)))
        self.count(1 + 3, "a", (("a", "", 5), ("", "a", -5)))
        self.count(1 + 3, "a", (("a", "", 5), ("", "a", -7)))
        self.count(1 + 3, "a", (("a", "", 5), ("a", "", 6)))
        self.count(1 + 1 + 1 + 2, "ab", (("a", "b", 5), ("b", "a", -6)))
        self.count(1 + 1 + 1 + 3, "ab", (("a", "b", 0), ("b", "a", 0)))

    def test_chains_that_no_row_fits(self):
        chain = (("a", "b", -1), ("b", "c", -1), ("c", "d", -1), ("d", "a", -1))
        self.check("abcd", chain, range(-5, 6))
        # All four together would put a below itself; every other choice of truths has a row.
        full = [truths for missing, truths in self.found("abcd", chain) if not missing]
        self.assertEqual(len(full), 15)
        through_zero = (("", "a", -2), ("a", "b", -2), ("b", "c", -2), ("c", "", 5), ("c", "a", 3))
        self.check("abc", through_zero, range(-14, 15))

    def test_pairs_of_literals_over_two_columns(self):
        ends = [("a", ""), ("", "a"), ("b", ""), ("", "b"), ("a", "b"), ("b", "a")]
        pool = [(a, b, n) for a, b in ends for n in (-2, 0, 1)]
        for literals in combinations(pool, 2):
            self.check("ab", literals, range(-7, 8))

    def test_many_literals(self):
        chance = random.Random(7)
        for names, many, bound, reach in [("ab", 6, 3, 16), ("abc", 4, 2, 12), ("abc", 6, 1, 9), ("abcd", 6, 1, 8)]:
            for _ in range(4):
                terms = ["", *names]
                literals = []
                while len(literals) < many:
                    a, b = chance.sample(terms, 2)
                    literals.append((a, b, chance.randint(-bound, bound)))
                self.check(names, tuple(literals), range(-reach, reach + 1))

    def test_beyond_the_limits(self):
        literals = tuple([("a", "", n) for n in range(12)] + [("", "b", n) for n in range(-12, 0)])
        self.count(1 + 13 + 13 + 13 * 13, "ab", literals)

    def test_great_numbers(self):
        values = [k * BIG + n for k in range(-4, 5) for n in range(-3, 4)]
        self.check("ab", (("a", "", BIG), ("", "a", -BIG), ("a", "b", BIG - 1), ("b", "", -BIG)), values)
        self.check("ab", (("a", "b", -BIG), ("b", "a", BIG), ("b", "a", BIG - 1)), values)
        self.count(1 + 3, "a", (("a", "", MOST), ("", "a", -MOST)))
        self.count(1 + 2, "a", (("a", "", -MOST), ("", "a", MOST - 1)))
        self.count(1 + 1 + 1 + 2, "ab", (("a", "b", MOST - 1), ("b", "a", -MOST)))
        chain = (("a", "b", -BIG), ("b", "c", -BIG), ("a", "c", -2 * BIG))
        full = [truths for missing, truths in self.found("abc", chain) if not missing]
        # If the first two hold, the third one does; and if they both fail, it fails.
        self.assertEqual(len(full), 6)

    def test_each_row_and_the_list_are_new(self):
        columns = Columns("a", "b")
        literals = (("a", "b", 0), ("", "a", 3))
        first = samples(columns, literals)
        before = [dict(row) for row in first]
        second = samples(columns, literals)
        self.assertIsNot(first, second)
        self.assertEqual(len({id(row) for row in first + second}), 2 * len(first))
        for row in first:
            row.clear()
        first.clear()
        self.assertEqual([signature(row, literals) for row in second], [signature(row, literals) for row in before])
        self.assertEqual(samples(columns, literals), before)
        self.assertEqual(columns.names, ("a", "b"))


if __name__ == "__main__":
    unittest.main()
