"""The signs between row sets, against the rows of a grid that has one for each signature."""

import random
import unittest
from itertools import product

from batchtests.columns import Columns
from batchtests.rowsets import RowSet, all_rows, no_rows
from helper import fits, grid, random_literals, rows_by_signature

BIG = 10 ** 99
# Each names columns, literals, and values that reach each signature of them.
POOLS = [
    ("a", [("a", "", 0), ("", "a", -1), ("a", "", 3), ("", "a", 2)], range(-6, 7)),
    ("ab", [("a", "", 0), ("", "b", -1), ("a", "b", -1), ("b", "a", 1)], range(-7, 8)),
    ("ba", [("a", "b", 0), ("b", "a", 0), ("a", "", -2), ("", "a", 2), ("b", "", 1)], range(-7, 8)),
    ("abc", [("a", "b", -1), ("b", "c", -1), ("c", "a", 1), ("", "c", -1)], range(-5, 6)),
    ("ab", [("a", "", BIG), ("", "a", -BIG), ("a", "b", BIG - 1)],
     [k * BIG + n for k in range(-3, 4) for n in range(-2, 3)]),
]


def random_cases(chance, names, literals):
    """Up to three cases of the literals."""
    cases = []
    for _ in range(chance.choice([0, 1, 1, 2, 2, 3])):
        missing = [name for name in names if chance.random() < 0.3]
        chance.shuffle(missing)
        allowed = [literal for literal in literals if literal[0] not in missing and literal[1] not in missing]
        taken = chance.sample(allowed, min(len(allowed), chance.choice([0, 1, 1, 2, 3])))
        cases.append((tuple(missing), tuple(taken)))
    return tuple(cases)


class TestSigns(unittest.TestCase):
    def setUp(self):
        self.samples = []
        for names, literals, values in POOLS:
            self.samples.append((names, literals, rows_by_signature(names, literals, values)))

    def inside(self, rows, samples):
        """For each sample, whether the set has it; sets made of the same literals are equal if these are."""
        return [row in rows for row in samples]

    def pairs(self, many):
        chance = random.Random(11)
        for names, literals, samples in self.samples:
            columns = Columns(*names)
            for _ in range(many):
                first, second = (random_cases(chance, names, literals) for _ in range(2))
                yield RowSet(columns, first), RowSet(columns, second), first, second, samples

    def test_each_sign(self):
        for a, b, first, second, samples in self.pairs(40):
            in_a = [fits(row, first) for row in samples]
            in_b = [fits(row, second) for row in samples]
            self.assertEqual(self.inside(a, samples), in_a)
            self.assertEqual(self.inside(b, samples), in_b)
            self.assertEqual(self.inside(a & b, samples), [x and y for x, y in zip(in_a, in_b)])
            self.assertEqual(self.inside(a | b, samples), [x or y for x, y in zip(in_a, in_b)])
            self.assertEqual(self.inside(a - b, samples), [x and not y for x, y in zip(in_a, in_b)])
            self.assertEqual(self.inside(~a, samples), [not x for x in in_a])
            self.assertIs(a.within(b), all(y for x, y in zip(in_a, in_b) if x))
            self.assertIs(a == b, in_a == in_b)
            self.assertIs(a != b, in_a != in_b)
            self.assertIs(a.is_empty(), not any(in_a))

    def test_signs_of_results(self):
        for a, b, _, _, samples in self.pairs(25):
            for made in [a & b, a | b, a - b, ~a]:
                row = made.some()
                self.assertIs(made.is_empty(), row is None)
                self.assertIs(made.is_empty(), not any(self.inside(made, samples)))
                if row is not None:
                    self.assertIn(row, made)
                    self.assertEqual(made.columns.row(row), row)
                self.assertIs(type(made.cases), tuple)
                again = RowSet(made.columns, made.cases)
                self.assertEqual(again, made)
                self.assertEqual(self.inside(again, samples), self.inside(made, samples))
                self.assertEqual(again - made, no_rows(made.columns))
                self.assertEqual(again | ~made, all_rows(made.columns))

    def test_laws(self):
        for a, b, _, _, _ in self.pairs(25):
            none, full = no_rows(a.columns), all_rows(a.columns)
            self.assertEqual(~~a, a)
            self.assertEqual(a - (a - b), a & b)
            self.assertEqual((a & b) | (a - b), a)
            self.assertEqual(~(a | b), ~a & ~b)
            self.assertEqual(~(a & b), ~a | ~b)
            self.assertEqual((a - b) & b, none)
            self.assertEqual(a | ~a, full)
            self.assertEqual(a & ~a, none)
            self.assertEqual((a | b, a & b), (b | a, b & a))
            self.assertTrue((a & b).within(a) and a.within(a | b) and (a - b).within(~b))
            self.assertEqual((a & full, a | none, a - none, a - full), (a, a, a, none))

    def test_laws_of_three(self):
        chance = random.Random(12)
        for names, literals, samples in self.samples:
            columns = Columns(*names)
            for _ in range(12):
                a, b, c = (RowSet(columns, random_cases(chance, names, literals)) for _ in range(3))
                self.assertEqual(a & (b | c), (a & b) | (a & c))
                self.assertEqual(a - (b | c), (a - b) - c)
                self.assertEqual((a | b) - c, (a - c) | (b - c))
                self.assertEqual(self.inside((a - b) | (c - a), samples),
                                 [(row in a and row not in b) or (row in c and row not in a) for row in samples])

    def test_many_signs_one_after_the_other(self):
        chance = random.Random(13)
        for names, literals, samples in self.samples:
            columns = Columns(*names)
            sets = [RowSet(columns, random_cases(chance, names, literals)) for _ in range(4)]
            known = [self.inside(rows, samples) for rows in sets]
            for _ in range(60):
                k, m = chance.randrange(4), chance.randrange(4)
                sign = chance.choice("&|-~")
                a, b, x, y = sets[k], sets[m], known[k], known[m]
                sets[k] = {"&": lambda: a & b, "|": lambda: a | b, "-": lambda: a - b, "~": lambda: ~a}[sign]()
                known[k] = [{"&": p and q, "|": p or q, "-": p and not q, "~": not p}[sign] for p, q in zip(x, y)]
                self.assertEqual(self.inside(sets[k], samples), known[k])
                if not any(known[k]) or all(known[k]):
                    sets[k] = RowSet(columns, random_cases(chance, names, literals))
                    known[k] = self.inside(sets[k], samples)

    def test_the_operands_stay_as_they_are(self):
        for a, b, _, _, samples in self.pairs(10):
            before = self.inside(a, samples), self.inside(b, samples), a.cases, b.cases
            for made in [a & b, a | b, a - b, ~a, b - a, ~b, b | a]:
                made.some()
                made.within(a)
            self.assertIs(a == b, b == a)
            self.assertEqual((self.inside(a, samples), self.inside(b, samples), a.cases, b.cases), before)

    def test_the_limits(self):
        columns = Columns(*"abcd")
        chance = random.Random(14)
        for _ in range(4):
            literals = random_literals(chance, "abcd", 6, 2)
            cases = []
            for _ in range(2):
                cases.append(tuple(((), tuple(chance.sample(literals, 4))) for _ in range(6)))
            a, b = (RowSet(columns, one) for one in cases)
            for row in grid("abcd", (-3, 0, 1, 4)):
                self.assertIs(row in (a & b), fits(row, cases[0]) and fits(row, cases[1]))
                self.assertIs(row in (a - b), fits(row, cases[0]) and not fits(row, cases[1]))
            self.assertEqual((a & b) | (a - b), a)
            self.assertEqual(~(a | b), ~a & ~b)

    def test_sets_stay_small(self):
        """However often signs are used, a set needs no more cases than there are signatures."""
        columns = Columns("a", "b")
        low, high = RowSet(columns, (((), (("a", "", 3),)),)), RowSet(columns, (((), (("", "a", -1),)),) * 3)
        rows = low
        for _ in range(40):
            rows = (rows | high | rows) - (low - (rows & rows))
        self.assertEqual(rows, low | high)
        self.assertLessEqual(len(rows.cases), 4)
        self.assertLessEqual(len((~rows | rows).cases), 7)

    def test_literals_that_touch(self):
        """Sets that are equal although their cases are not: the numbers between 3 and 5."""
        columns = Columns("a")
        whole = RowSet(columns, (((), (("", "a", -3), ("a", "", 5))),))
        for cut, n in product((3, 4), (0, 1, 2)):
            low = RowSet(columns, (((), (("", "a", -3), ("a", "", cut))),))
            high = RowSet(columns, (((), (("", "a", -cut - n), ("a", "", 5))),))
            self.assertIs((low | high) == whole, n <= 1)
            self.assertIs((low & high).is_empty(), n >= 1)
            self.assertIs(low.within(whole), True)
            self.assertIs(whole.within(low), False)
            self.assertIs((whole - low) == high, n == 1)


if __name__ == "__main__":
    unittest.main()
