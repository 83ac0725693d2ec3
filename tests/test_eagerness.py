"""Eager parts that change nothing: point 12.1."""

import random
import unittest

from batchtests.columns import Columns
from batchtests.compare import difference
from batchtests.conditions import Condition
from batchtests.eagerness import eager_sets
from batchtests.engines import Engine
from batchtests.errors import BadLevel
from batchtests.plans import Plan, plain
from helper import OTHER_OBJECTS, changed_engine, random_literals, random_small_plan, subsets, ways_of

AB = Columns("a", "b")
FIRST = ("must", "low", ("", "a", 0), ("atmost", "a", "", 9))
SECOND = ("must", "high", ("b", "", 5), ("atmost", "b", "a", 0))
BOTH = Condition(AB, ("and", (FIRST, SECOND)))
LEVELS = ["rows", "output", "error"]
YES, NO = ("atmost", "a", "", 0), ("atmost", "", "a", -1)


def greatest(engine, level):
    """The greatest sets, each set of places looked at by `difference`."""
    ways = ways_of(engine.plan)
    alike = [
        chosen for chosen in subsets(ways)
        if difference(engine, changed_engine(engine, {place: ("eager", ways[place][1]) for place in chosen}), level) is None
    ]
    return sorted(one for one in alike if not any(set(one) < set(other) for other in alike))


class TestEagerSets(unittest.TestCase):
    def test_each_set_of_places(self):
        chance = random.Random(131)
        met = {}
        for _ in range(45):
            plan = random_small_plan(chance, random_literals(chance, "ab", 3, 2), [1, 2, 3, 4])
            engine = Engine(plan, chance.choice([1, 2, 3]), chance.choice([None, None, 2]))
            for level in LEVELS:
                found = eager_sets(engine, level)
                self.assertEqual(found, greatest(engine, level))
                self.assertEqual(found, sorted(found))
                met[len(found)] = met.get(len(found), 0) + 1
                for chosen in found:
                    self.assertIs(type(chosen), tuple)
                    self.assertEqual(list(chosen), sorted(chosen))
        self.assertGreater(met[1], 10)
        self.assertGreater(sum(met[many] for many in met if many > 1), 3)

    def test_the_example(self):
        self.assertEqual(eager_sets(Engine(plain(BOTH), 1), "rows"), [()])
        self.assertEqual(eager_sets(level="rows", engine=Engine(plain(BOTH), 1)), [()])

    def test_no_place_at_all(self):
        for part in [YES, ("missing", "a"), FIRST, ("not", FIRST)]:
            for level in LEVELS:
                self.assertEqual(eager_sets(Engine(plain(Condition(AB, part)), 1), level), [()])

    def test_places_that_are_eager_already(self):
        for ways in [{(): ("eager", None)}, {(): ("eager", (1, 0))}]:
            for level in LEVELS:
                self.assertEqual(eager_sets(Engine(Plan(BOTH, ways), 2), level), [((),)])

    def test_places_that_are_deferred(self):
        # A deferred part hides the failure behind a "no", an eager one does not.
        self.assertEqual(eager_sets(Engine(Plan(BOTH, {(): ("deferred", None)}), 1), "rows"), [()])
        alone = Condition(AB, ("and", (FIRST,)))
        for level in LEVELS:
            self.assertEqual(eager_sets(Engine(Plan(alone, {(): ("deferred", None)}), 1), level), [((),)])
        plain_parts = Condition(AB, ("or", (YES, ("and", (NO, YES)))))
        ways = {(): ("deferred", (1, 0)), (1,): ("deferred", None)}
        self.assertEqual(eager_sets(Engine(Plan(plain_parts, ways), 1), "error"), [((), (1,))])

    def test_the_place_keeps_its_order(self):
        # In the order (1, 0) the failing part comes first and gets all rows; in the written order it would not.
        condition = Condition(AB, ("and", (YES, ("must", "x", ("b", "", 0), YES))))
        turned = Engine(Plan(condition, {(): ("lazy", (1, 0))}), 2)
        for level in LEVELS:
            self.assertEqual(eager_sets(turned, level), [((),)])
            self.assertEqual(eager_sets(Engine(plain(condition), 2), level), [()])
        # Two failures: which of them comes first depends on the order.
        two = Condition(AB, ("and", (("must", "x", ("a", "", 0), YES), ("must", "y", ("a", "", 0), YES))))
        for order in [(0, 1), (1, 0)]:
            self.assertEqual(eager_sets(Engine(Plan(two, {(): ("lazy", order)}), 2), "error"), [((),)])

    def test_a_case(self):
        # The last part fails for rows that the test takes.
        part = ("case", ((YES, ("missing", "b")),), ("must", "x", ("", "a", -1), YES))
        self.assertEqual(eager_sets(Engine(plain(Condition(AB, part)), 1), "rows"), [()])
        part = ("case", ((YES, ("missing", "b")),), ("not", YES))
        self.assertEqual(eager_sets(Engine(plain(Condition(AB, part)), 1), "rows"), [((),)])

    def test_several_greatest_sets(self):
        # Where the outer part is eager the inner one hides the failure, and the other way round.
        found = set()
        chance = random.Random(132)
        for _ in range(60):
            plan = random_small_plan(chance, random_literals(chance, "ab", 2, 1), [2, 3])
            engine = Engine(plan, 1)
            sets = eager_sets(engine, "rows")
            if len(sets) > 1:
                found.add(len(sets))
                for one in sets:
                    for other in sets:
                        self.assertFalse(set(one) < set(other))
        self.assertTrue(found)

    def test_the_list_ascends(self):
        # The set with one place alone comes last, although its place is not the last one.
        near = ("a", "b", 1)
        inner = ("case", ((("atmost", "b", "", -1), ("must", "y", near, ("missing", "b"))),),
                 ("must", "x", ("b", "", 0), ("atmost", *near)))
        first = ("and", (("must", "y", near, ("atmost", "b", "", 0)), ("atmost", "b", "", 0)))
        condition = Condition(AB, ("case", ((first, inner),), inner))
        engine = Engine(Plan(condition, {(0,): ("lazy", (1, 0))}), 1)
        found = eager_sets(engine, "error")
        self.assertEqual(found, greatest(engine, "error"))
        self.assertEqual(found, [((), (2,)), ((1,),)])

    def test_the_levels(self):
        # What is alike by a narrower level is alike by the wider one.
        chance = random.Random(133)
        for _ in range(20):
            plan = random_small_plan(chance, random_literals(chance, "ab", 3, 2), [1, 2, 3])
            engine = Engine(plan, 2)
            rows, output, error = [eager_sets(engine, level) for level in LEVELS]
            for narrow, wide in [(error, output), (output, rows)]:
                for one in narrow:
                    self.assertTrue(any(set(one) <= set(other) for other in wide))

    def test_codes_and_rows_count_at_one_level_alone(self):
        # A row with b above 0 and a above 0 fails anyway, but earlier if the inner part is eager.
        both = [((), (0,))]
        for code, size, expected in [("y", 1, [((),)]), ("x", 1, both), ("x", 2, [((),)])]:
            inner = ("and", (("atmost", "b", "", 0), ("must", "x", ("a", "", 0), YES)))
            part = ("or", (inner, ("must", code, ("a", "", 0), YES)))
            engine = Engine(plain(Condition(AB, part)), size)
            self.assertEqual([eager_sets(engine, level) for level in LEVELS], [both, both, expected])

    def test_wrong_levels(self):
        for engine in [Engine(plain(BOTH), 1), Engine(plain(Condition(AB, YES)), 1)]:
            for level in [*OTHER_OBJECTS, "row", "Rows", "rows ", "errors", "", b"rows", ["rows"], ("rows",), engine]:
                with self.assertRaises(BadLevel):
                    eager_sets(engine, level)

    def test_returned_lists_are_new(self):
        engine = Engine(plain(BOTH), 1)
        found = eager_sets(engine, "rows")
        found.append(1)
        self.assertEqual(eager_sets(engine, "rows"), [()])
        self.assertEqual(engine.plan, plain(BOTH))


if __name__ == "__main__":
    unittest.main()
