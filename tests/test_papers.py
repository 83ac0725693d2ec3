"""Rows, papers and certificates: points 11.1 to 11.5."""

import random
import unittest
from itertools import product

from batchtests.columns import Columns
from batchtests.compare import difference, joint_fates
from batchtests.conditions import Condition
from batchtests.engines import Engine
from batchtests.errors import BadLevel, BadWants, Unlike
from batchtests.fates import fate, fates, fates_by_form
from batchtests.plans import Plan, plain, stops
from batchtests.papers import certificate, certificate_fault, paper, row_for
from batchtests.trees import closes
from helper import (
    OTHER_OBJECTS, grid, joint_rows, random_literals, random_plan, random_ways, run_of_fates, runs_differ, tree_closes,
)

A = Columns("a")
AB = Columns("a", "b")
SETTLED = ("settled",)
FIRST = ("must", "low", ("", "a", 0), ("atmost", "a", "", 9))
SECOND = ("must", "high", ("b", "", 5), ("atmost", "b", "a", 0))
BOTH = Condition(AB, ("and", (FIRST, SECOND)))
LEVELS = ["rows", "output", "error"]
SELECTED, DROPPED = ("selected",), ("dropped",)
LOW, HIGH = ("fails", (0,), "low"), ("fails", (1,), "high")


def row_or_paper(columns, wants):
    """The row and the paper of a claim, of which just one is None."""
    row, tree = row_for(columns, wants), paper(columns, wants)
    assert (row is None) != (tree is None)
    return row, tree


class TestRowsAndPapers(unittest.TestCase):
    def check(self, columns, wants, meets):
        """Look at the row or the paper of a claim that does not hold if some row meets all wants."""
        row, tree = row_or_paper(columns, wants)
        if not meets:
            self.assertIsNone(row)
            self.assertIs(closes(columns, wants, tree), True)
            self.assertTrue(tree_closes(columns.names, wants, tree))
        else:
            self.assertEqual(row, columns.row(row))
            for plan, wanted in wants:
                self.assertIn(fate(plan, row), wanted)
        return tree

    def test_pairs_of_fates(self):
        chance = random.Random(121)
        met = {True: 0, False: 0}
        for names, many, bound, values, rounds in [("a", 4, 3, range(-8, 9), 12), ("ab", 3, 2, range(-6, 7), 14)]:
            columns = Columns(*names)
            for _ in range(rounds):
                literals = random_literals(chance, names, many, bound)
                one, other = [random_plan(chance, names, literals, 3)[0] for _ in range(2)]
                had = joint_rows(one, other, values)
                for f, g in product(fates_by_form(one), fates_by_form(other)):
                    met[(f, g) in had] += 1
                    tree = self.check(columns, [(one, (f,)), (other, (g,))], (f, g) in had)
                    if tree is not None:
                        self.check(columns, [(other, (g,)), (one, (f,))], False)
                        # The paper shows the claim, in whatever order its wants stand.
                        self.assertIs(closes(columns, [(other, (g,)), (one, (f,))], tree), True)
        self.assertGreater(min(met.values()), 50)

    def test_several_fates_and_wants(self):
        chance = random.Random(122)
        met = {True: 0, False: 0}
        for _ in range(60):
            literals = random_literals(chance, "ab", 3, 2)
            plans = [random_plan(chance, "ab", literals, 3)[0] for _ in range(chance.choice([1, 2, 2, 3]))]
            wants = []
            for plan in plans:
                form = fates_by_form(plan)
                wants.append((plan, tuple(chance.sample(form, chance.randint(1, len(form) - 1)))))
            meets = any(all(fate(plan, row) in wanted for plan, wanted in wants) for row in grid("ab", range(-6, 7)))
            met[meets] += 1
            self.check(AB, wants, meets)
        self.assertGreater(min(met.values()), 10)

    def test_a_fate_and_itself(self):
        chance = random.Random(123)
        for _ in range(20):
            plan, _ = random_plan(chance, "ab", random_literals(chance, "ab", 4, 3), 4)
            had = fates(plan)
            for one in fates_by_form(plan):
                row, tree = row_or_paper(AB, [(plan, (one,)), (plan, (one, one))])
                self.assertEqual(row is not None, one in had)
            row, tree = row_or_paper(AB, [(plan, (SELECTED,)), (plan, (DROPPED,))])
            self.assertIsNone(row)
            self.assertIs(closes(AB, [(plan, (SELECTED,)), (plan, (DROPPED,))], tree), True)

    def test_no_wants(self):
        for columns in [A, AB, Columns("b", "a", "d", "c")]:
            row, tree = row_or_paper(columns, [])
            self.assertEqual(row, columns.row(row))
            self.assertIsNone(tree)

    def test_wants_with_no_fates_and_fates_that_are_never(self):
        plan = plain(BOTH)
        for odd in [(), (("fails", (5,), "x"),), (("fails", (0,), "high"),), (None, [], {}, 1.5, "selected", ["selected"], plan)]:
            for wants in [[(plan, odd)], [(plan, (SELECTED,)), (plan, odd)], [(plan, odd), (plan, (SELECTED,))]]:
                row, tree = row_or_paper(AB, wants)
                self.assertIsNone(row)
                self.assertIs(closes(AB, wants, tree), True)
        row, tree = row_or_paper(AB, [(plan, (None, ["selected"], SELECTED, {}))])
        self.assertEqual(fate(plan, row), SELECTED)

    def test_rings_of_literals(self):
        # Literals around two to four columns and "", all of them true.
        chance = random.Random(124)
        for many in [2, 3, 4, 5]:
            terms = ["", "a", "b", "c", "d"]
            for total in [-1, 0]:
                for big in [1, 7, 10 ** 99]:
                    chance.shuffle(terms)
                    names = sorted(term for term in terms[:many] if term)
                    columns = Columns(*names)
                    numbers = [chance.randint(-big, big) for _ in range(many - 1)]
                    numbers.append(total - sum(numbers))
                    parts = [("atmost", terms[k], terms[(k + 1) % many], n) for k, n in enumerate(numbers)]
                    chance.shuffle(parts)
                    inside = tuple(parts[:3]) + ((("and", tuple(parts[3:]))),) * (many > 3)
                    plan = plain(Condition(columns, ("and", inside)))
                    wants = [(plan, (SELECTED,))]
                    row, tree = row_or_paper(columns, wants)
                    self.assertEqual(row is None, total < 0)
                    if row is None:
                        self.assertIs(closes(columns, wants, tree), True)
                        self.assertTrue(self.rings_of(tree))
                    else:
                        self.assertEqual(fate(plan, row), SELECTED)
                    # The same with each literal written as the opposite of its opposite.
                    turned = tuple(("not", ("atmost", b, a, -n - 1)) for _, a, b, n in parts)
                    inside = turned[:3] + (("and", turned[3:]),) * (many > 3)
                    wants = [(plain(Condition(columns, ("and", inside))), (SELECTED,))]
                    row, tree = row_or_paper(columns, wants)
                    self.assertEqual(row is None, total < 0)
                    if row is None:
                        self.assertIs(closes(columns, wants, tree), True)

    def rings_of(self, tree):
        if tree[0] in ("missing", "test"):
            return self.rings_of(tree[2]) + self.rings_of(tree[3])
        return [tree[1]] if tree[0] == "ring" else []

    def test_errors(self):
        plan = plain(BOTH)
        good, other = (plan, (SELECTED,)), (plain(Condition(A, ("missing", "a"))), (SELECTED,))
        for asked in [row_for, paper]:
            for wants in [*OTHER_OBJECTS, (good,), good, None, {0: good}]:
                if type(wants) is not list:
                    with self.assertRaises(BadWants) as caught:
                        asked(AB, wants)
                    self.assertEqual(caught.exception.index, -1)
            for wrong in [*OTHER_OBJECTS, list(good), (plan,), (plan, (SELECTED,), ()), (BOTH, (SELECTED,)),
                          ((SELECTED,), plan), (plan, [SELECTED]), (plan, "selected"), (plan, None), Engine(plan, 1)]:
                for wants, index in [([wrong], 0), ([good, wrong], 1), ([other, wrong, 1], 1)]:
                    with self.assertRaises(BadWants) as caught:
                        asked(wants=wants, columns=AB)
                    self.assertEqual(caught.exception.index, index)
            for columns in [A, Columns("b", "a"), Columns("a", "b", "c"), Columns("a", "c")]:
                with self.assertRaises(Unlike):
                    asked(columns, [good])
            with self.assertRaises(Unlike):
                asked(AB, [good, other])

    def test_rows_are_new_and_nothing_is_changed(self):
        wants = [(plain(BOTH), (SELECTED,))]
        row = row_for(wants=wants, columns=AB)
        kept = dict(row)
        row.clear()
        self.assertEqual(row_for(AB, wants), kept)
        self.assertEqual(wants, [(plain(BOTH), (SELECTED,))])
        self.assertIsNone(paper(wants=wants, columns=AB))


class TestCertificates(unittest.TestCase):
    def check(self, one, other, level):
        """Look at the certificate of two engines; return whether there is one."""
        table, found = difference(one, other, level), certificate(one, other, level)
        self.assertEqual(table is None, found is not None)
        if found is None:
            return False
        had = joint_fates(one.plan, other.plan)
        pairs = [pair for pair in product(fates_by_form(one.plan), fates_by_form(other.plan)) if pair not in had]
        self.assertIs(type(found), list)
        self.assertEqual([entry[:2] for entry in found], pairs)
        for entry in found:
            self.assertIs(type(entry), tuple)
            f, g, tree = entry
            self.assertIs(closes(one.columns, [(one.plan, (f,)), (other.plan, (g,))], tree), True)
        self.assertIsNone(certificate_fault(one, other, level, found))
        return True

    def test_random_engines(self):
        chance = random.Random(125)
        met = {True: 0, False: 0}
        for _ in range(60):
            literals = random_literals(chance, "ab", 4, 2)
            plan, _ = random_plan(chance, "ab", literals, 3)
            other = chance.choice([plain(plan.condition), Plan(plan.condition, random_ways(chance, plan.condition)), plan,
                                   random_plan(chance, "ab", literals, 3)[0]])
            one = Engine(plan, chance.choice([1, 2, 5]), chance.choice([None, None, 2]))
            two = Engine(other, chance.choice([one.size, 3]), chance.choice([one.limit, None, 1]))
            for level in LEVELS:
                met[self.check(one, two, level)] += 1
        self.assertGreater(min(met.values()), 40)

    def test_faults_against_all_words(self):
        # Certificates with entries left out: right if what is left shows no difference.
        chance = random.Random(126)
        met = {True: 0, False: 0}
        while min(met.values()) < 25:
            literals = random_literals(chance, "ab", 3, 2)
            plan, _ = random_plan(chance, "ab", literals, 3)
            other = Plan(plan.condition, random_ways(chance, plan.condition))
            one, two = Engine(plan, chance.choice([1, 2])), Engine(other, chance.choice([1, 2]))
            level = chance.choice(LEVELS)
            whole = certificate(one, two, level)
            if whole is None or len(whole) < 3:
                continue
            kept = [entry for entry in whole if chance.random() < 0.85]
            left = [pair for pair in product(fates_by_form(plan), fates_by_form(other))
                    if pair not in [entry[:2] for entry in kept]]
            if len(left) > 9:
                continue
            fault = certificate_fault(one, two, level, kept)
            met[fault is None] += 1
            self.assertIn(fault, [None, ("table",)])
            # For sizes 1 and 2 and no limits, no word longer than three rows is needed.
            found = False
            for many in [1, 2, 3]:
                for word in product(left, repeat=many):
                    results = [run_of_fates(stops(engine.plan), engine.size, None, [pair[side] for pair in word])
                               for side, engine in enumerate((one, two))]
                    found = found or runs_differ(level, *results)
            self.assertEqual(fault is not None, found)

    def test_spoiled_certificates(self):
        one, other = Engine(plain(BOTH), 2), Engine(plain(BOTH), 2)
        whole = certificate(one, other, "error")
        self.assertEqual(len(whole), 12)
        for index, (f, g, tree) in enumerate(whole):
            def fault(entry):
                return certificate_fault(one, other, "error", whole[:index] + entry + whole[index + 1:])
            self.assertIsNone(fault([(f, g, tree)]))
            # Left out: then a row may have this joint fate, of unlike kinds or with unlike codes.
            self.assertEqual(fault([]), ("table",))
            self.assertEqual(fault([(f, g, tree)] * 2), ("tree", index + 1))
            for wrong in [[f, g, tree], (f, g), (f, g, tree, tree), (), (f,), [], None, tree, f, "fgt", 7,
                          (list(f), g, tree), (f, list(g), tree), (f[0], g, tree), (f, None, tree), (g, f, None),
                          (f, g, None), (f, g, ()), (f, g, []), (f, g, list(tree)), (f, g, (f, g, tree)),
                          (("fails", (0,), "high"), g, tree), (f, ("fails", (), "low"), tree), (f, ("fails", (0,)), tree),
                          (("selected", 1), g, tree), (f, {}, tree), (f, g, ("ring", (0,))), (f, g, ("ring", ()))]:
                self.assertEqual(fault([wrong]), ("tree", index))
            for thing in OTHER_OBJECTS:
                self.assertEqual(fault([thing]), ("tree", index))
                self.assertEqual(fault([(f, g, thing)]), ("tree", index))
                self.assertEqual(fault([(thing, g, tree)]), ("tree", index))
                self.assertEqual(fault([(f, thing, tree)]), ("tree", index))
        for index in range(len(whole) - 1):
            swapped = list(whole)
            swapped[index:index + 2] = [whole[index + 1], whole[index]]
            self.assertEqual(certificate_fault(one, other, "error", swapped), ("tree", index + 1))

    def test_trees_of_other_entries(self):
        one, other = Engine(plain(BOTH), 2), Engine(plain(BOTH), 2)
        whole = certificate(one, other, "rows")
        for index, (f, g, _) in enumerate(whole):
            for _, _, tree in whole:
                spoiled = whole[:index] + [(f, g, tree)] + whole[index + 1:]
                right = tree_closes("ab", [(one.plan, (f,)), (other.plan, (g,))], tree)
                self.assertEqual(certificate_fault(one, other, "rows", spoiled), None if right else ("tree", index))

    def test_a_pair_that_some_row_has(self):
        one, other = Engine(plain(BOTH), 2), Engine(plain(BOTH), 2)
        whole = certificate(one, other, "error")
        for pair in joint_fates(one.plan, other.plan):
            for tree in [SETTLED, whole[0][2]]:
                self.assertEqual(certificate_fault(one, other, "error", [(*pair, tree)]), ("tree", 0))

    def test_the_first_wrong_entry(self):
        one, other = Engine(plain(BOTH), 1), Engine(plain(BOTH), 1)
        whole = certificate(one, other, "output")
        self.assertEqual(certificate_fault(one, other, "output", [*whole[:3], None, 7]), ("tree", 3))
        self.assertEqual(certificate_fault(one, other, "output", [None]), ("tree", 0))
        # An entry is wrong after one that is not, and the table is looked at only where none is wrong.
        self.assertEqual(certificate_fault(one, other, "output", [whole[-1], whole[0]]), ("tree", 1))
        self.assertEqual(certificate_fault(one, other, "output", [whole[-1]]), ("table",))
        for index in range(len(whole)):
            self.assertEqual(certificate_fault(one, other, "output", [*whole[:index + 1], whole[index]]), ("tree", index + 1))

    def test_no_lists(self):
        one, other = Engine(plain(BOTH), 1), Engine(Plan(BOTH, {(): ("lazy", (1, 0))}), 1)
        whole = certificate(one, one, "rows")
        for thing in [*OTHER_OBJECTS, tuple(whole), dict(enumerate(whole)), None, "certificate", whole[0], one, iter(whole)]:
            if type(thing) is list:
                continue
            for two in [one, other]:
                for level in LEVELS:
                    self.assertEqual(certificate_fault(one, two, level, thing), ("tree", -1))

    def test_the_empty_certificate(self):
        one, other = Engine(plain(BOTH), 1), Engine(Plan(BOTH, {(): ("lazy", (1, 0))}), 1)
        for level in LEVELS:
            self.assertIsNone(certificate(one, other, level))
            self.assertEqual(certificate_fault(one, other, level, []), ("table",))
            # Without entries selected may stand beside dropped.
            self.assertEqual(certificate_fault(one, one, level, []), ("table",))
            self.assertEqual(certificate_fault(Engine(one.plan, 1), Engine(one.plan, 2), level, []), ("table",))

    def test_engines_that_differ_have_no_right_certificate(self):
        chance = random.Random(127)
        checked = 0
        while checked < 20:
            literals = random_literals(chance, "ab", 3, 2)
            plan, _ = random_plan(chance, "ab", literals, 3)
            one, other = Engine(plan, 1), Engine(Plan(plan.condition, random_ways(chance, plan.condition)), 2, 1)
            level = chance.choice(LEVELS)
            had = joint_fates(one.plan, other.plan)
            if difference(one, other, level) is None:
                continue
            checked += 1
            pairs = [pair for pair in product(fates_by_form(one.plan), fates_by_form(other.plan)) if pair not in had]
            entries = [(f, g, paper(AB, [(one.plan, (f,)), (other.plan, (g,))])) for f, g in pairs]
            self.assertEqual(certificate_fault(one, other, level, entries), ("table",))

    def test_fewer_entries_that_are_still_right(self):
        one, other = Engine(plain(BOTH), 1), Engine(plain(BOTH), 1)
        # At the level "rows" two failures are alike whatever their codes, so their pairs need no entry.
        for level, needed in [("rows", False), ("output", False), ("error", True)]:
            whole = certificate(one, other, level)
            kept = [entry for entry in whole if {entry[0], entry[1]} != {LOW, HIGH}]
            self.assertEqual(len(kept), len(whole) - 2)
            self.assertEqual(certificate_fault(one, other, level, kept), ("table",) if needed else None)
        # Only what a table shows counts: with size 1 the failing row alone decides.
        same = ("must", "x", ("", "a", 0), ("must", "x", ("b", "", 5), ("atmost", "b", "a", 0)))
        plan = plain(Condition(AB, same))
        for size in [1, 2]:
            whole = certificate(Engine(plan, size), Engine(plan, size), "error")
            kept = [entry for entry in whole if not (entry[0][0] == entry[1][0] == "fails")]
            self.assertEqual(len(whole) - len(kept), 2)
            fault = certificate_fault(Engine(plan, size), Engine(plan, size), "error", kept)
            self.assertEqual(fault, None if size == 1 else ("table",))

    def test_errors(self):
        one = Engine(plain(BOTH), 1)
        for columns in [Columns("b", "a"), A, Columns("a", "b", "c"), Columns("a", "c")]:
            other = Engine(plain(Condition(columns, ("missing", "a"))), 1)
            for left, right in [(one, other), (other, one)]:
                for level in LEVELS:
                    with self.assertRaises(Unlike):
                        certificate(left, right, level)
                    for thing in [[], None, [None]]:
                        with self.assertRaises(Unlike):
                            certificate_fault(left, right, level, thing)
                for level in [*OTHER_OBJECTS, "row", "Rows", "rows ", "errors", "", b"rows", ["rows"], one]:
                    for two in [left, right]:
                        with self.assertRaises(BadLevel):
                            certificate(left, two, level)
                        for thing in [[], None]:
                            with self.assertRaises(BadLevel):
                                certificate_fault(left, two, level, thing)

    def test_arguments_by_name_and_new_lists(self):
        one, other = Engine(plain(BOTH), 1), Engine(plain(BOTH), 2)
        found = certificate(level="rows", other=other, one=one)
        kept = list(found)
        self.assertIsNone(certificate_fault(certificate=found, level="rows", other=other, one=one))
        self.assertEqual(found, kept)
        found.clear()
        self.assertEqual(certificate(one, other, "rows"), kept)

    def test_the_limits(self):
        # Four columns, six unlike literals together, 20 parts, four of them musts, sizes 7 and 8.
        tests = [("a", "b", 1), ("b", "c", -2), ("c", "d", 0), ("d", "", 5), ("", "a", 3), ("a", "", 7)]
        musts = [("must", code, tests[k], ("atmost", *tests[k + 1])) for k, code in enumerate(["x", "y", "x", "z"])]
        inner = ("case", ((("missing", "a"), musts[0]), (("atmost", *tests[5]), musts[1])), ("missing", "d"))
        part = ("and", (("or", (inner, ("not", musts[2]))), ("and", (musts[3], ("missing", "b"))),
                        ("or", (("atmost", *tests[0]), ("missing", "c")))))
        condition = Condition(Columns("a", "b", "c", "d"), part)
        self.assertEqual(len(condition.places()), 20)
        self.assertEqual(len(condition.literals()), 6)
        for ways in [{}, {(): ("eager", (2, 0, 1))}, {(0,): ("deferred", None)}]:
            plan = Plan(condition, ways, hoisted=((1, 0),))
            self.assertTrue(self.check(Engine(plan, 7), Engine(plan, 8), "rows"))
            self.assertTrue(self.check(Engine(plan, 8, 4), Engine(plan, 8, 4), "error"))
            self.check(Engine(plan, 8, 3), Engine(plain(condition), 7, 4), "error")


if __name__ == "__main__":
    unittest.main()
