import inspect
import random
import unittest
from itertools import permutations

from batchtests.columns import Columns
from batchtests.conditions import Condition
from batchtests.engines import Engine, batches
from batchtests.errors import BadLimit, BadSize, BadTable
from batchtests.fates import fate
from batchtests.plans import Plan, plain, stops
from helper import OTHER_OBJECTS, Batch, joined, random_literals, random_plan, run_by_rules

AB = Columns("a", "b")
FIRST = ("must", "low", ("", "a", 0), ("atmost", "a", "", 9))
SECOND = ("must", "high", ("b", "", 5), ("atmost", "b", "a", 0))
PLAN = plain(Condition(AB, ("and", (FIRST, SECOND))))
ROWS = [{"a": 3, "b": 2}, {"a": 1, "b": 9}, {"a": -1, "b": 0}]
GOOD, BAD, DROP = {"a": 3, "b": 2}, {"a": -1, "b": 0}, {"a": 20, "b": 9}
HIGH = {"a": 1, "b": 9}


class TestEngine(unittest.TestCase):
    def test_sizes_and_limits_at_their_edges(self):
        for size in range(1, 9):
            for limit in [None, 1, 2, 3, 4]:
                engine = Engine(PLAN, size, limit)
                self.assertEqual((engine.size, engine.limit, engine.plan, engine.columns), (size, limit, PLAN, AB))
        engine = Engine(limit=2, size=3, plan=PLAN)
        self.assertEqual((engine.size, engine.limit), (3, 2))
        self.assertIsNone(Engine(PLAN, 3).limit)

    def test_wrong_sizes(self):
        for size in [*OTHER_OBJECTS, 0, 9, -1, -8, 10 ** 100, True, False, "1", 1.0, None, "", (1,), [1], b"1"]:
            if type(size) is not int or not 1 <= size <= 8:
                for limit in [None, 1, 0, True, "x"]:
                    with self.assertRaises(BadSize):
                        Engine(PLAN, size, limit)

    def test_wrong_limits(self):
        for limit in [*OTHER_OBJECTS, 0, 5, -1, 10 ** 100, True, False, "1", 1.0, "", (1,), [1], "None"]:
            if limit is not None and (type(limit) is not int or not 1 <= limit <= 4):
                with self.assertRaises(BadLimit):
                    Engine(PLAN, 1, limit)
                with self.assertRaises(BadLimit):
                    Engine(PLAN, size=8, limit=limit)


class TestRun(unittest.TestCase):
    def test_the_examples(self):
        self.assertEqual(Engine(PLAN, 1).run(ROWS), ([0], (1, "high")))
        self.assertEqual(Engine(PLAN, 2).run(ROWS), ([], (1, "high")))
        self.assertEqual(Engine(PLAN, 3).run(ROWS), ([], (2, "low")))
        self.assertEqual(Engine(PLAN, 1, 1).run(ROWS), ([0], None))

    def test_the_empty_table(self):
        for size in range(1, 9):
            for limit in [None, 1, 4]:
                self.assertEqual(Engine(PLAN, size, limit).run([]), ([], None))
                self.assertEqual(list(batches(Engine(PLAN, size, limit), [])), [])

    def test_selected_indexes_count_from_the_start(self):
        rows = [GOOD, DROP, DROP, GOOD, GOOD, DROP, GOOD]
        for size in range(1, 9):
            self.assertEqual(Engine(PLAN, size).run(rows), ([0, 3, 4, 6], None))
            self.assertEqual(Engine(PLAN, size).run(rows=[DROP] * 9), ([], None))

    def test_errors_count_from_the_start(self):
        rows = [GOOD, DROP, GOOD, GOOD, HIGH, BAD, GOOD]
        self.assertEqual(Engine(PLAN, 1).run(rows), ([0, 2, 3], (4, "high")))
        self.assertEqual(Engine(PLAN, 2).run(rows), ([0, 2, 3], (5, "low")))
        self.assertEqual(Engine(PLAN, 3).run(rows), ([0, 2], (5, "low")))
        self.assertEqual(Engine(PLAN, 4).run(rows), ([0, 2, 3], (5, "low")))
        self.assertEqual(Engine(PLAN, 5).run(rows), ([], (4, "high")))
        self.assertEqual(Engine(PLAN, 8).run(rows), ([], (5, "low")))

    def test_the_first_of_several_rows_that_fail_at_one_place(self):
        rows = [DROP, HIGH, HIGH, BAD, HIGH, BAD]
        self.assertEqual(Engine(PLAN, 6).run(rows), ([], (3, "low")))
        self.assertEqual(Engine(PLAN, 3).run(rows), ([], (1, "high")))
        turned = Engine(PLAN.with_way((), "lazy", (1, 0)), 6)
        self.assertEqual(turned.run(rows), ([], (0, "high")))
        self.assertEqual(turned.run(rows[1:]), ([], (0, "high")))
        self.assertEqual(turned.run([GOOD, BAD, HIGH, BAD, HIGH]), ([], (2, "high")))

    def test_the_limit_within_a_batch_and_at_its_end(self):
        rows = [GOOD, DROP, GOOD, GOOD, GOOD, GOOD]
        for size in range(1, 9):
            for limit in [1, 2, 3, 4]:
                self.assertEqual(Engine(PLAN, size, limit).run(rows), ([0, 2, 3, 4][:limit], None))
        self.assertEqual(Engine(PLAN, 3, 4).run([GOOD, DROP, GOOD]), ([0, 2], None))

    def test_the_limit_and_a_batch_that_stops(self):
        rows = [GOOD, GOOD, GOOD, BAD]
        # The batch in which the limit would be reached is evaluated as a whole.
        self.assertEqual(Engine(PLAN, 4, 2).run(rows), ([], (3, "low")))
        self.assertEqual(Engine(PLAN, 3, 3).run(rows), ([0, 1, 2], None))
        self.assertEqual(Engine(PLAN, 3, 2).run(rows), ([0, 1], None))
        self.assertEqual(Engine(PLAN, 3, 4).run(rows), ([0, 1, 2], (3, "low")))
        self.assertEqual(Engine(PLAN, 2, 3).run(rows), ([0, 1], (3, "low")))
        self.assertEqual(Engine(PLAN, 2, 2).run(rows), ([0, 1], None))

    def wrong(self, index, rows):
        for engine in [Engine(PLAN, 1), Engine(PLAN, 8, 1)]:
            with self.assertRaises(BadTable) as caught:
                engine.run(rows)
            self.assertEqual(caught.exception.index, index)
            with self.assertRaises(BadTable) as caught:
                for _ in batches(engine, rows):
                    self.fail("a batch before the error")
            self.assertEqual(caught.exception.index, index)

    def test_tables_that_are_no_lists(self):
        for thing in [*OTHER_OBJECTS, (GOOD,), (), GOOD, {0: GOOD}, None, "ab", iter([GOOD])]:
            if not isinstance(thing, list):
                self.wrong(-1, thing)

    def test_wrong_rows(self):
        for thing in OTHER_OBJECTS:
            self.wrong(0, [thing])
            self.wrong(2, [GOOD, DROP, thing, GOOD])
            self.wrong(1, [BAD, thing])
        for row in [{"a": True, "b": 1}, {"a": 1}, {"a": 1, "b": 1, "c": 1}, {"a": 1, "b": 1.0}, [1, 2], ("a", "b")]:
            self.wrong(1, [GOOD, row, {}])
            self.wrong(3, [GOOD, GOOD, GOOD, row, row])
        self.wrong(20, [GOOD] * 20 + [None])
        self.wrong(20, [BAD] * 20 + [{}, None])

    def test_nothing_that_is_passed_changes(self):
        rows = [{"b": 2, "a": 3}, {"a": 1, "b": None}]
        before = [list(row.items()) for row in rows]
        engine = Engine(PLAN, 2)
        first, second = engine.run(rows), engine.run(rows)
        self.assertEqual([list(row.items()) for row in rows], before)
        self.assertEqual(first, second)
        self.assertIs(type(first), tuple)
        self.assertIs(type(first[0]), list)
        first[0].append(7)
        self.assertEqual(engine.run(rows), second)

    def test_other_columns(self):
        engine = Engine(plain(Condition(Columns("x"), ("atmost", "x", "", 0))), 2)
        self.assertEqual(engine.run([{"x": 0}, {"x": 1}, {"x": None}, {"x": -1}]), ([0, 3], None))
        with self.assertRaises(BadTable):
            engine.run([GOOD])


class TestBatches(unittest.TestCase):
    def test_a_generator_of_pairs(self):
        found = batches(Engine(PLAN, 2), ROWS)
        self.assertTrue(inspect.isgenerator(found))
        self.assertEqual(list(found), [([], (1, "high"))])
        self.assertEqual(list(batches(rows=[GOOD, DROP, DROP], engine=Engine(PLAN, 1))), [([0], None), ([], None), ([], None)])
        self.assertEqual(list(batches(Engine(PLAN, 2), [GOOD, GOOD, GOOD, GOOD, BAD])),
                         [([0, 1], None), ([2, 3], None), ([], (4, "low"))])
        for pair in batches(Engine(PLAN, 1), ROWS):
            self.assertIs(type(pair), tuple)
            self.assertIs(type(pair[0]), list)

    def test_no_batch_after_an_error_or_the_limit(self):
        self.assertEqual(list(batches(Engine(PLAN, 1), [GOOD, BAD, GOOD])), [([0], None), ([], (1, "low"))])
        self.assertEqual(list(batches(Engine(PLAN, 1, 1), [DROP, GOOD, BAD])), [([], None), ([1], None)])
        self.assertEqual(list(batches(Engine(PLAN, 2, 3), [GOOD] * 7)), [([0, 1], None), ([2], None)])
        self.assertEqual(list(batches(Engine(PLAN, 2, 2), [GOOD] * 7)), [([0, 1], None)])
        self.assertEqual(list(batches(Engine(PLAN, 2, 4), [GOOD] * 3)), [([0, 1], None), ([2], None)])

    def test_left_and_begun_anew_and_side_by_side(self):
        engine = Engine(PLAN, 1, 2)
        table = [GOOD, DROP, GOOD, GOOD]
        left = batches(engine, table)
        self.assertEqual(next(left), ([0], None))
        one, other = batches(engine, table), batches(engine, table)
        self.assertEqual(next(one), ([0], None))
        self.assertEqual(next(one), ([], None))
        self.assertEqual(next(other), ([0], None))
        self.assertEqual(list(one), [([2], None)])
        self.assertEqual(list(other), [([], None), ([2], None)])
        self.assertEqual(next(left), ([], None))
        self.assertEqual(engine.run(table), ([0, 2], None))
        left.close()
        self.assertEqual(engine.run(table), ([0, 2], None))

    def test_a_later_change_has_no_effect(self):
        table = [dict(GOOD), dict(GOOD), dict(GOOD), dict(GOOD)]
        found = batches(Engine(PLAN, 2), table)
        first = next(found)
        first[0].extend([7, 8, 9])
        table[2]["a"] = -1
        table.append(None)
        del table[3]
        self.assertEqual(list(found), [([2, 3], None)])

    def test_a_changed_pair_does_not_count(self):
        found = batches(Engine(PLAN, 1, 2), [GOOD] * 4)
        next(found)[0].clear()
        self.assertEqual(list(found), [([1], None)])


class TestRules(unittest.TestCase):
    """Tables against the rules of point 6.6, worked out for the lists of rows of each batch."""

    def plans(self, many, seed):
        chance = random.Random(seed)
        for _ in range(many):
            literals = random_literals(chance, "ab", 4, 2)
            plan, ways = random_plan(chance, "ab", literals, chance.choice([3, 4]))
            yield plan, ways, chance

    def table(self, chance, many):
        return [{name: chance.choice([None, *range(-5, 6)]) for name in "ab"} for _ in range(many)]

    def test_one_batch(self):
        stopped = 0
        for plan, ways, chance in self.plans(150, 71):
            for many in (1, 2, 3, 5, 8):
                rows = self.table(chance, many)
                batch = Batch(plan.condition.part, ways, plan.hoisted, rows)
                self.assertEqual(Engine(plan, 8).run(rows), batch.result())
                found = [fate(plan, row) for row in rows]
                failed = [(place, k) for place in stops(plan) for k in range(many) if found[k][1:2] == (place,)]
                self.assertIs(batch.stopped is None, not failed)
                if failed:
                    stopped += 1
                    place, k = failed[0]
                    self.assertEqual((batch.stopped.place, batch.stopped.index), (place, k))
                    self.assertEqual(Engine(plan, many).run(rows), ([], (k, found[k][2])))
        self.assertGreater(stopped, 150)

    def test_the_same_rows_in_another_order(self):
        for plan, ways, chance in self.plans(40, 72):
            rows = self.table(chance, 3)
            for turned in permutations(rows):
                batch = Batch(plan.condition.part, ways, plan.hoisted, list(turned))
                self.assertEqual(Engine(plan, 3).run(list(turned)), batch.result())
            kinds = {Engine(plan, 3).run(list(turned))[1] is None for turned in permutations(rows)}
            self.assertEqual(len(kinds), 1)

    def test_tables(self):
        for plan, ways, chance in self.plans(100, 73):
            for _ in range(4):
                size, limit = chance.randint(1, 8), chance.choice([None, 1, 2, 3, 4])
                rows = self.table(chance, chance.choice([1, 4, 9, 25]))
                engine = Engine(plan, size, limit)
                pairs = run_by_rules(plan, ways, size, limit, rows)
                self.assertEqual(list(batches(engine, rows)), pairs)
                self.assertEqual(engine.run(rows), joined(pairs))
                self.assertEqual(engine.run(rows), engine.run(rows))

    def test_tables_of_200_rows(self):
        long = 0
        for plan, ways, chance in self.plans(40, 74):
            rows = [row for row in self.table(chance, 900) if fate(plan, row)[0] != "fails"][:200]
            if len(rows) == 200:
                long += 1
                for last in [[], [row for row in self.table(chance, 50) if fate(plan, row)[0] == "fails"][:1]]:
                    table = rows[len(last):] + last
                    for size, limit in [(1, None), (7, None), (8, 4)]:
                        pairs = run_by_rules(plan, ways, size, limit, table)
                        self.assertEqual(Engine(plan, size, limit).run(table), joined(pairs))
        self.assertGreater(long, 10)

    def test_great_numbers(self):
        n = 10 ** 100 - 1
        condition = Condition(AB, ("and", (("must", "x", ("a", "b", n), ("atmost", "a", "", n)), ("missing", "b"))))
        table = [{"a": n, "b": None}, {"a": n, "b": 0}, {"a": n, "b": -1}]
        self.assertEqual(Engine(plain(condition), 1).run(table), ([], (2, "x")))
        self.assertEqual(Engine(Plan(condition, {(): ("deferred", None)}), 3).run(table), ([], None))
        self.assertEqual(Engine(Plan(condition, {(): ("eager", (1, 0))}), 2).run(table[:2]), ([], None))


if __name__ == "__main__":
    unittest.main()
