"""Engines and plans compared: points 9.1 to 9.6."""

import random
import unittest
from itertools import product

from batchtests.columns import Columns
from batchtests.compare import difference, joint_fates, unlike_row
from batchtests.conditions import Condition
from batchtests.engines import Engine
from batchtests.errors import BadLevel, Unlike
from batchtests.fates import fate, fates_by_form
from batchtests.plans import Plan, plain, stops
from helper import (
    OTHER_OBJECTS, joined, joint_rows, random_literals, random_plan, random_ways, run_by_rules, run_of_fates,
    runs_differ, ways_of,
)

AB = Columns("a", "b")
FIRST = ("must", "low", ("", "a", 0), ("atmost", "a", "", 9))
SECOND = ("must", "high", ("b", "", 5), ("atmost", "b", "a", 0))
BOTH = Condition(AB, ("and", (FIRST, SECOND)))
LEVELS = ["rows", "output", "error"]
NO_LEVELS = [
    *OTHER_OBJECTS, "", "row", "rowss", "Rows", "ROWS", "rows ", " rows", "rows\n", "outputs", "out", "errors", "err",
    "error\0", b"rows", ["rows"], ("rows",), {"rows": 1}, {"rows"}, frozenset({"rows"}), 1, None, True,
    Engine(plain(BOTH), 1), plain(BOTH), "level", "fails",
]


def by_rules(engine, rows):
    plan = engine.plan
    return joined(run_by_rules(plan, ways_of(plan), engine.size, engine.limit, rows))


def shortest_by_words(one, other, level, most, values):
    """The least length up to the greatest one of a word of joint fates on which the runs differ, or None."""
    pairs = list(joint_rows(one.plan, other.plan, values))
    orders = [stops(engine.plan) for engine in (one, other)]
    for many in range(1, most + 1):
        for word in product(pairs, repeat=many):
            results = [
                run_of_fates(order, engine.size, engine.limit, [pair[side] for pair in word])
                for side, (engine, order) in enumerate(zip((one, other), orders))
            ]
            if runs_differ(level, *results):
                return many
    return None


class TestDifference(unittest.TestCase):
    def check(self, one, other, level, values, most=3):
        """Compare the difference with all words up to the greatest length; return its length or None."""
        table = difference(one, other, level)
        if table is None:
            self.assertIsNone(shortest_by_words(one, other, level, most, values))
            return None
        self.assertIs(type(table), list)
        for row in table:
            self.assertEqual(row, one.columns.row(row))
        results = [engine.run(table) for engine in (one, other)]
        self.assertTrue(runs_differ(level, *results))
        self.assertEqual(results, [by_rules(engine, table) for engine in (one, other)])
        least = shortest_by_words(one, other, level, min(most, len(table)), values)
        self.assertEqual(least, len(table) if len(table) <= most else None)
        return len(table)

    def random_engine(self, chance, plan):
        return Engine(plan, chance.choice([1, 1, 2, 2, 3, 4, 8]), chance.choice([None, None, 1, 2, 4]))

    def test_engines_of_one_condition(self):
        chance = random.Random(91)
        met = {}
        for _ in range(70):
            literals = random_literals(chance, "ab", 3, 2)
            plan, _ = random_plan(chance, "ab", literals, 3)
            condition = plan.condition
            places = condition.places()
            hoisted = tuple(chance.sample(places, chance.randint(0, min(2, len(places)))))
            other = chance.choice([plain(condition), Plan(condition, random_ways(chance, condition), hoisted=hoisted)])
            one = self.random_engine(chance, plan)
            two = chance.choice([self.random_engine(chance, other), Engine(other, one.size, one.limit)])
            for level in LEVELS:
                found = self.check(one, two, level, range(-6, 7))
                met[(level, found)] = met.get((level, found), 0) + 1
        for level in LEVELS:
            self.assertGreater(met[(level, None)], 3)
            self.assertGreater(met[(level, 1)], 3)
            self.assertGreater(sum(met[key] for key in met if key[0] == level and key[1] not in (None, 1)), 3)

    def test_engines_of_two_conditions(self):
        chance = random.Random(92)
        for _ in range(60):
            literals = random_literals(chance, "ab", 3, 2)
            plans = [random_plan(chance, "ab", literals, chance.choice([2, 3]))[0] for _ in range(2)]
            one, other = [self.random_engine(chance, plan) for plan in plans]
            for level in LEVELS:
                self.check(one, other, level, range(-6, 7))

    def test_three_columns(self):
        chance = random.Random(93)
        for _ in range(8):
            literals = random_literals(chance, "abc", 3, 1)
            plan, _ = random_plan(chance, "abc", literals, 3)
            other = Plan(plan.condition, random_ways(chance, plan.condition))
            for level in LEVELS:
                self.check(self.random_engine(chance, plan), self.random_engine(chance, other), level, range(-4, 5))

    def test_alike_engines_on_long_tables(self):
        chance = random.Random(94)
        checked = 0
        while checked < 40:
            literals = random_literals(chance, "ab", 2, 2)
            plan, _ = random_plan(chance, "ab", literals, 3)
            other = Plan(plan.condition, random_ways(chance, plan.condition))
            one = self.random_engine(chance, plan)
            two = chance.choice([self.random_engine(chance, other), Engine(other, one.size, one.limit)])
            rows = list(joint_rows(plan, other, range(-5, 6)).values())
            for level in LEVELS:
                if difference(one, two, level) is None and len(rows) > 2:
                    checked += 1
                    for _ in range(30):
                        table = chance.choices(rows, k=chance.randint(4, 25))
                        self.assertFalse(runs_differ(level, one.run(table), two.run(table)))

    def test_the_examples(self):
        one, other = Engine(plain(BOTH), 1), Engine(plain(BOTH), 2)
        self.assertIsNone(difference(one, other, "rows"))
        self.assertEqual(len(difference(one, other, "output")), 2)
        self.assertEqual(self.check(one, other, "error", range(-3, 12)), 2)
        hoisted = Engine(Plan(BOTH, hoisted=((1,),)), 1)
        self.assertEqual(self.check(one, hoisted, "rows", range(-3, 12)), 1)

    def test_sizes_1_and_8(self):
        plan = plain(BOTH)
        self.assertIsNone(difference(Engine(plan, 1), Engine(plan, 8), "rows"))
        self.assertEqual(len(difference(Engine(plan, 1), Engine(plan, 8), "output")), 2)
        self.assertEqual(len(difference(Engine(plan, 1), Engine(plan, 8), "error")), 2)
        # The batch of size 1 that reaches the limit has no row that fails; that of size 8 may have one.
        for limit in [1, 2, 3, 4]:
            one, other = Engine(plan, 1, limit), Engine(plan, 8, limit)
            table = difference(one, other, "rows")
            self.assertEqual(len(table), limit + 1)
            self.assertEqual([one.run(table)[1], other.run(table)[1] is None], [None, False])

    def test_sizes_7_and_8(self):
        # A failure in the eighth row costs the first engine no rows, and the second one seven.
        plan = plain(BOTH)
        for level, many in [("rows", None), ("output", 8), ("error", 8)]:
            table = difference(Engine(plan, 7), Engine(plan, 8), level)
            self.assertEqual(table if many is None else len(table), many)
        # With no row selected only the error can differ: by the row that stops the later, fuller batch.
        never = plain(Condition(AB, ("and", (*BOTH.part[1], ("atmost", "a", "", -1)))))
        for level, many in [("rows", None), ("output", None), ("error", 8)]:
            table = difference(Engine(never, 7), Engine(never, 8), level)
            self.assertEqual(table if many is None else len(table), many)

    def test_limits(self):
        plan = plain(BOTH)
        for size in range(1, 9):
            for one, other, many in [(None, 4, 5), (None, 1, 2), (1, 2, 2), (2, 4, 3), (3, 4, 4)]:
                for level in LEVELS:
                    for engines in [(one, other), (other, one)]:
                        table = difference(Engine(plan, size, engines[0]), Engine(plan, size, engines[1]), level)
                        self.assertEqual(len(table), many)

    def test_a_limit_that_no_table_reaches(self):
        never = plain(Condition(AB, ("and", (*BOTH.part[1], ("atmost", "a", "", -1)))))
        for level in LEVELS:
            self.assertIsNone(difference(Engine(never, 3), Engine(never, 3, 1), level))

    def test_levels_within_one_another(self):
        chance = random.Random(95)
        for _ in range(60):
            literals = random_literals(chance, "ab", 3, 2)
            plans = [random_plan(chance, "ab", literals, 3)[0] for _ in range(2)]
            one, other = [self.random_engine(chance, plan) for plan in plans]
            lengths = [99 if table is None else len(table) for table in
                       [difference(one, other, level) for level in LEVELS]]
            self.assertEqual(lengths, sorted(lengths, reverse=True))

    def test_an_engine_and_an_equal_one(self):
        chance = random.Random(96)
        for _ in range(30):
            plan, ways = random_plan(chance, "ab", random_literals(chance, "ab", 4, 3), 4)
            same = Plan(Condition(Columns("a", "b"), plan.condition.part), ways, hoisted=plan.hoisted)
            engine = self.random_engine(chance, plan)
            for level in LEVELS:
                self.assertIsNone(difference(engine, engine, level))
                self.assertIsNone(difference(engine, Engine(same, engine.size, engine.limit), level))

    def test_engines_exchanged(self):
        chance = random.Random(97)
        for _ in range(40):
            literals = random_literals(chance, "ab", 3, 2)
            plans = [random_plan(chance, "ab", literals, 3)[0] for _ in range(2)]
            one, other = [self.random_engine(chance, plan) for plan in plans]
            for level in LEVELS:
                there, back = difference(one, other, level), difference(other, one, level)
                self.assertEqual(there is None, back is None)
                if there is not None:
                    self.assertEqual(len(there), len(back))

    def test_failures_whose_stops_stand_in_unlike_orders(self):
        # No row fails at both places, so the rows differ only by which of two rows stops a batch.
        left = ("must", "x", ("a", "", 3), ("atmost", "a", "", 3))
        right = ("must", "x", ("", "a", 3), ("atmost", "", "a", 3))
        condition = Condition(AB, ("and", (left, right)))
        turned = Plan(condition, {(): ("lazy", (1, 0))})
        for size in range(1, 9):
            for level in LEVELS:
                table = difference(Engine(plain(condition), size), Engine(turned, size), level)
                if size == 1 or level != "error":
                    self.assertIsNone(table)
                else:
                    self.assertEqual(len(table), 2)
                    self.assertEqual(sorted(row["a"] > 3 for row in table), [False, True])
                    self.assertEqual(sorted(row["a"] < -3 for row in table), [False, True])
        # A row that fails at both has unlike codes by the orders.
        other = Condition(AB, ("and", (left, ("must", "y", ("b", "", 0), right))))
        turned = Plan(other, {(): ("lazy", (1, 0))})
        self.assertEqual(len(difference(Engine(plain(other), 1), Engine(turned, 1), "error")), 1)
        self.assertIsNone(difference(Engine(plain(other), 1), Engine(turned, 1), "output"))

    def test_the_place_of_a_failure_is_not_compared(self):
        part = ("must", "x", ("a", "", 0), ("atmost", "a", "b", 0))
        one = Engine(plain(Condition(AB, part)), 3)
        for inside in [("not", ("not", part)), ("and", (part,)), ("or", (part,))]:
            condition = Condition(AB, inside)
            for way in ["lazy", "deferred"]:
                plan = plain(condition) if inside[0] == "not" else Plan(condition, {(): (way, None)})
                for level in LEVELS:
                    self.assertIsNone(difference(one, Engine(plan, 3), level))

    def test_conditions_without_a_must(self):
        chance = random.Random(98)
        checked = 0
        while checked < 25:
            literals = random_literals(chance, "ab", 3, 2)
            plan, _ = random_plan(chance, "ab", literals, 3)
            if plan.condition.codes():
                continue
            checked += 1
            other = Plan(plan.condition, random_ways(chance, plan.condition), hoisted=tuple(plan.condition.places()))
            limit = chance.choice([None, 1, 3])
            # Without failures neither ways nor orders nor batches change anything.
            for level in LEVELS:
                self.assertIsNone(difference(Engine(plan, 1, limit), Engine(other, 8, limit), level))

    def test_unlike_columns(self):
        engine = Engine(plain(BOTH), 1)
        for columns in [Columns("b", "a"), Columns("a"), Columns("a", "b", "c"), Columns("a", "c")]:
            other = Engine(plain(Condition(columns, ("missing", "a"))), 1)
            for one, two in [(engine, other), (other, engine)]:
                for level in LEVELS:
                    with self.assertRaises(Unlike):
                        difference(one, two, level)
                for level in NO_LEVELS:
                    with self.assertRaises(BadLevel):
                        difference(one, two, level)
                with self.assertRaises(Unlike):
                    joint_fates(one.plan, two.plan)
                with self.assertRaises(Unlike):
                    unlike_row(one.plan, two.plan)

    def test_wrong_levels(self):
        engine = Engine(plain(BOTH), 1)
        for level in NO_LEVELS:
            with self.assertRaises(BadLevel):
                difference(engine, engine, level)
            with self.assertRaises(BadLevel):
                difference(level=level, other=engine, one=engine)

    def test_returned_tables_are_new(self):
        one, other = Engine(plain(BOTH), 7, 4), Engine(plain(BOTH), 7)
        table = difference(other=other, level="rows", one=one)
        self.assertEqual(len(table), 5)
        self.assertEqual(len({id(row) for row in table}), 5)
        kept = [dict(row) for row in table]
        for row in table:
            row.clear()
        table.clear()
        self.assertEqual(difference(one, other, "rows"), kept)


class TestJointFates(unittest.TestCase):
    def test_against_one_row_for_each_signature(self):
        chance = random.Random(99)
        for names, bound, values, rounds in [("a", 3, range(-7, 8), 30), ("ab", 2, range(-6, 7), 40), ("abc", 1, range(-4, 5), 6)]:
            for _ in range(rounds):
                literals = random_literals(chance, names, 3, bound)
                one, other = [random_plan(chance, names, literals, chance.choice([2, 3, 4]))[0] for _ in range(2)]
                expected = list(joint_rows(one, other, values))
                forms = fates_by_form(one), fates_by_form(other)
                expected = sorted(expected, key=lambda pair: (forms[0].index(pair[0]), forms[1].index(pair[1])))
                self.assertEqual(joint_fates(one, other), expected)
                self.assertEqual(joint_fates(other=other, one=one), expected)

    def test_the_order(self):
        plan = plain(BOTH)
        self.assertEqual(joint_fates(plan, Plan(BOTH, hoisted=((1,),))), [
            (("selected",), ("selected",)),
            (("dropped",), ("dropped",)),
            (("dropped",), ("fails", (1,), "high")),
            (("fails", (0,), "low"), ("fails", (0,), "low")),
            (("fails", (1,), "high"), ("fails", (1,), "high")),
        ])
        turned = Plan(BOTH, {(): ("lazy", (1, 0))})
        self.assertEqual(joint_fates(turned, plan), [
            (("selected",), ("selected",)),
            (("dropped",), ("dropped",)),
            (("dropped",), ("fails", (0,), "low")),
            (("fails", (1,), "high"), ("dropped",)),
            (("fails", (1,), "high"), ("fails", (0,), "low")),
            (("fails", (1,), "high"), ("fails", (1,), "high")),
            (("fails", (0,), "low"), ("fails", (0,), "low")),
        ])

    def test_a_plan_and_itself(self):
        chance = random.Random(100)
        for _ in range(20):
            plan, _ = random_plan(chance, "ab", random_literals(chance, "ab", 4, 3), 4)
            self.assertTrue(all(f == g for f, g in joint_fates(plan, plan)))

    def test_returned_lists_are_new(self):
        plan = plain(BOTH)
        found = joint_fates(plan, plan)
        kept = list(found)
        found.clear()
        self.assertEqual(joint_fates(plan, plan), kept)


class TestUnlikeRow(unittest.TestCase):
    def test_against_one_row_for_each_signature(self):
        chance = random.Random(101)
        met = {True: 0, False: 0}
        for _ in range(90):
            literals = random_literals(chance, "ab", 3, 2)
            one, _ = random_plan(chance, "ab", literals, 3)
            other = chance.choice([
                random_plan(chance, "ab", literals, 3)[0], Plan(one.condition, random_ways(chance, one.condition)),
                plain(one.condition),
            ])
            row = unlike_row(one, other)
            unlike = [pair for pair in joint_rows(one, other, range(-6, 7)) if pair[0][0] != pair[1][0]]
            met[row is None] += 1
            if row is None:
                self.assertEqual(unlike, [])
            else:
                self.assertEqual(row, one.columns.row(row))
                self.assertIn((fate(one, row), fate(other, row)), unlike)
        self.assertGreater(min(met.values()), 15)

    def test_codes_and_places_are_not_compared(self):
        part = ("must", "x", ("a", "", 0), ("missing", "a"))
        one = plain(Condition(AB, part))
        self.assertIsNone(unlike_row(one, plain(Condition(AB, ("must", "y", *part[2:])))))
        self.assertIsNone(unlike_row(one, Plan(Condition(AB, ("and", (part,))), {(): ("deferred", None)})))
        row = unlike_row(one, plain(Condition(AB, ("atmost", "a", "", 0))))
        self.assertIsNotNone(row)

    def test_returned_rows_are_new(self):
        one, other = plain(BOTH), Plan(BOTH, hoisted=((1,),))
        row = unlike_row(other=other, one=one)
        kept = dict(row)
        row.clear()
        self.assertEqual(unlike_row(one, other), kept)


if __name__ == "__main__":
    unittest.main()
