"""Orders that change nothing: points 13.1 to 13.3."""

import random
import unittest
from itertools import permutations, product

from batchtests.columns import Columns
from batchtests.compare import difference
from batchtests.conditions import Condition
from batchtests.engines import Engine
from batchtests.errors import BadLevel, NoPlace, TooMany
from batchtests.orders import alike_orders, any_order
from batchtests.plans import Plan, plain
from helper import (
    OTHER_OBJECTS, changed_engine, joined_places, random_literals, random_small_plan, runs_differ, ways_of,
)

AB = Columns("a", "b")
FIRST = ("must", "low", ("", "a", 0), ("atmost", "a", "", 9))
SECOND = ("must", "high", ("b", "", 5), ("atmost", "b", "a", 0))
BOTH = Condition(AB, ("and", (FIRST, SECOND)))
LEVELS = ["rows", "output", "error"]
NO_LEVELS = [*OTHER_OBJECTS, "row", "Rows", "rows ", "errors", "", b"rows", ["rows"], ("rows",)]
YES, NO = ("atmost", "a", "", 0), ("atmost", "", "a", -1)
MANY = Condition(AB, ("and", (
    ("or", (YES, NO)), ("case", ((YES, ("or", (NO,))),), FIRST), ("not", ("and", (YES, NO, FIRST, SECOND))), SECOND,
)))


def ordered(engine, places, orders):
    """The engine with these orders at the places, which keep their ways."""
    ways = ways_of(engine.plan)
    return changed_engine(engine, {place: (ways[place][0], order) for place, order in zip(places, orders)})


def places_and_sizes(plan):
    """The places of "and" and "or" with the numbers of their parts."""
    found = joined_places(plan.condition)
    return {place: many for place, (word, many) in found.items() if word != "case"}


class TestAlikeOrders(unittest.TestCase):
    def test_all_orders(self):
        chance = random.Random(141)
        kept, lost = 0, 0
        for _ in range(60):
            plan = random_small_plan(chance, random_literals(chance, "ab", 3, 2), [1, 2, 3])
            engine = Engine(plan, chance.choice([1, 1, 2, 3]), chance.choice([None, None, 2]))
            level = chance.choice(LEVELS)
            for place, many in places_and_sizes(plan).items():
                found = alike_orders(engine, place, level)
                expected = [
                    order for order in permutations(range(many))
                    if difference(engine, ordered(engine, [place], [order]), level) is None
                ]
                self.assertEqual(found, expected)
                self.assertIn(plan.way(place)[1], found)
                kept, lost = kept + len(found), lost + len(list(permutations(range(many)))) - len(found)
        self.assertGreater(min(kept, lost), 80)

    def test_the_example(self):
        engine = Engine(plain(BOTH), 1)
        self.assertEqual(alike_orders(engine, (), "rows"), [(0, 1)])
        self.assertEqual(alike_orders(level="rows", place=(), engine=engine), [(0, 1)])

    def test_its_own_order(self):
        engine = Engine(Plan(BOTH, {(): ("lazy", (1, 0))}), 1)
        for level in LEVELS:
            self.assertEqual(alike_orders(engine, (), level), [(1, 0)])

    def test_a_deferred_place(self):
        # A row is dropped if some part is "no", and fails otherwise, whatever the order.
        engine = Engine(Plan(BOTH, {(): ("deferred", None)}), 1)
        self.assertEqual(alike_orders(engine, (), "rows"), [(0, 1), (1, 0)])
        self.assertEqual(alike_orders(engine, (), "output"), [(0, 1), (1, 0)])
        self.assertEqual(alike_orders(engine, (), "error"), [(0, 1)])

    def test_the_way_of_the_place_stays(self):
        inner = ("must", "x", ("b", "", 0), YES)
        condition = Condition(AB, ("and", (YES, inner)))
        for way, orders in [("lazy", [(1, 0)]), ("eager", [(0, 1), (1, 0)]), ("deferred", [(0, 1), (1, 0)])]:
            self.assertEqual(alike_orders(Engine(Plan(condition, {(): (way, (1, 0))}), 1), (), "error"), orders)

    def test_one_part(self):
        for word in ["and", "or"]:
            engine = Engine(plain(Condition(AB, (word, (FIRST,)))), 1)
            for level in LEVELS:
                self.assertEqual(alike_orders(engine, (), level), [(0,)])

    def test_four_parts_without_failures(self):
        engine = Engine(plain(Condition(AB, ("or", (YES, NO, ("missing", "a"), ("missing", "b"))))), 3)
        for level in LEVELS:
            self.assertEqual(alike_orders(engine, (), level), list(permutations(range(4))))

    def test_no_place(self):
        engine = Engine(plain(MANY), 1)
        wrong = [place for place in MANY.places() if MANY[place][0] not in ("and", "or")]
        self.assertIn((1,), wrong)
        self.assertIn((3,), wrong)
        for place in [*wrong, (4,), (-1,), (True,), (0.0,), [0], "()", (0, 0, 0), (None,), ((),), *OTHER_OBJECTS]:
            if place == () and type(place) is tuple:
                continue
            for level in LEVELS:
                with self.assertRaises(NoPlace):
                    alike_orders(engine, place, level)
        for place in places_and_sizes(plain(MANY)):
            self.assertTrue(alike_orders(engine, place, "rows"))

    def test_a_level_that_is_none_comes_first(self):
        engine = Engine(plain(BOTH), 1)
        for level in NO_LEVELS:
            for place in [(), (0,), None, [], (9,)]:
                with self.assertRaises(BadLevel):
                    alike_orders(engine, place, level)

    def test_returned_lists_are_new(self):
        engine = Engine(plain(BOTH), 1)
        alike_orders(engine, (), "rows").clear()
        self.assertEqual(alike_orders(engine, (), "rows"), [(0, 1)])


class TestAnyOrder(unittest.TestCase):
    def first(self, engine, places, level):
        """The first tuple of orders with which the engine differs, each looked at by `difference`."""
        sizes = places_and_sizes(engine.plan)
        for orders in product(*[list(permutations(range(sizes[place]))) for place in places]):
            table = difference(engine, ordered(engine, places, orders), level)
            if table is not None:
                return orders, len(table)
        return None

    def test_the_first_tuple(self):
        chance = random.Random(142)
        met = {"none": 0, "later": 0}
        for _ in range(80):
            plan = random_small_plan(chance, random_literals(chance, "ab", 3, 2), [1, 2, 3])
            sizes = places_and_sizes(plan)
            places = tuple(chance.sample(sorted(sizes), chance.randint(0, min(2, len(sizes)))))
            many = 1
            for place in places:
                many *= len(list(permutations(range(sizes[place]))))
            engine = Engine(plan, chance.choice([1, 2]), chance.choice([None, None, 2]))
            level = chance.choice(LEVELS)
            if many > 64:
                with self.assertRaises(TooMany):
                    any_order(engine, places, level)
                continue
            found, expected = any_order(engine, places, level), self.first(engine, places, level)
            if expected is None:
                met["none"] += 1
                self.assertIsNone(found)
                continue
            met["later"] += 1
            self.assertIs(type(found), tuple)
            orders, table = found
            self.assertEqual((orders, len(table)), expected)
            other = ordered(engine, places, orders)
            self.assertTrue(runs_differ(level, engine.run(table), other.run(table)))
        self.assertGreater(min(met.values()), 15)

    def test_no_places(self):
        for level in LEVELS:
            self.assertIsNone(any_order(Engine(plain(MANY), 2), (), level))
            self.assertIsNone(any_order(Engine(plain(Condition(AB, YES)), 2), (), level))

    def test_the_engine_is_the_one_with_its_own_order(self):
        engine = Engine(Plan(BOTH, {(): ("lazy", (1, 0))}), 1)
        orders, table = any_order(engine, ((),), "rows")
        self.assertEqual((orders, len(table)), (((0, 1),), 1))
        orders, table = any_order(level="rows", places=((),), engine=Engine(plain(BOTH), 1))
        self.assertEqual((orders, len(table)), (((1, 0),), 1))

    def test_the_order_of_the_places(self):
        # The orders stand as the places do, and the last one changes first.
        part = ("and", (("and", (FIRST, ("atmost", "b", "", 3))), ("and", (YES, ("must", "x", ("a", "", -9), SECOND)))))
        engine = Engine(plain(Condition(AB, part)), 1)
        for places in permutations([(), (0,), (1,)]):
            orders, table = any_order(engine, places, "error")
            self.assertEqual((orders, len(table)), self.first(engine, places, "error"))
            self.assertEqual(orders, ((0, 1), (0, 1), (1, 0)))
        self.assertEqual(any_order(engine, ((1,), (0,)), "error")[0], ((0, 1), (1, 0)))
        self.assertEqual(any_order(engine, ((0,), (1,)), "error")[0], ((0, 1), (1, 0)))

    def test_wrong_places(self):
        engine = Engine(plain(MANY), 1)
        for wrong in [(1,), (3,), (0, 0), (2,), (4,), (-1,), (True,), [0], "", None, (None,), ((),), *OTHER_OBJECTS]:
            if wrong == () and type(wrong) is tuple:
                continue
            # There are too many orders of the whole part and of the place (2, 0): 24 times 24.
            for places in [(wrong,), ((), wrong), (wrong, ()), ((0,), wrong, (2, 0)), ((), (2, 0), wrong)]:
                with self.assertRaises(NoPlace):
                    any_order(engine, places, "rows")
        for places in [((), ()), ((0,), (), (0,)), ((), (2, 0), ()), ((0,), (0,), (0,))]:
            with self.assertRaises(NoPlace):
                any_order(engine, places, "rows")

    def test_too_many(self):
        engine = Engine(plain(MANY), 1)
        for places in [((), (2, 0)), ((2, 0), ()), ((0,), (), (2, 0)), ((1, 1), (2, 0), ())]:
            for level in LEVELS:
                with self.assertRaises(TooMany) as caught:
                    any_order(engine, places, level)
                self.assertEqual(caught.exception.limit, 64)
        # 24 times 2 times 1 are not too many.
        self.assertIsNotNone(any_order(engine, ((), (0,), (1, 1)), "error"))

    def test_just_64(self):
        pairs = tuple(("or", (("atmost", "a", "", n), ("missing", "a"))) for n in range(4))
        six = ("and", (("and", pairs[:2]), ("and", (("and", pairs[2:]), ("missing", "b")))))
        engine = Engine(plain(Condition(AB, six)), 1)
        sizes = places_and_sizes(engine.plan)
        self.assertEqual(sorted(sizes.values()), [2] * 8)
        places = tuple(sorted(sizes))
        self.assertIsNone(any_order(engine, places[:6], "error"))
        with self.assertRaises(TooMany) as caught:
            any_order(engine, places[:7], "error")
        self.assertEqual(caught.exception.limit, 64)
        three = ("and", (("or", (YES, NO, ("missing", "a"))), ("or", (YES, NO, ("missing", "b"))), ("missing", "a")))
        engine = Engine(plain(Condition(AB, three)), 1)
        self.assertIsNone(any_order(engine, ((0,), (1,)), "error"))
        with self.assertRaises(TooMany):
            any_order(engine, ((0,), (1,), ()), "error")

    def test_a_level_that_is_none_comes_first(self):
        engine = Engine(plain(MANY), 1)
        for level in NO_LEVELS:
            for places in [(), ((),), (None,), ((), ()), ((), (2, 0)), ((1,),)]:
                with self.assertRaises(BadLevel):
                    any_order(engine, places, level)

    def test_returned_tables_are_new(self):
        engine = Engine(plain(BOTH), 1)
        _, table = any_order(engine, ((),), "rows")
        kept = [dict(row) for row in table]
        table[0].clear()
        table.clear()
        self.assertEqual(any_order(engine, ((),), "rows")[1], kept)


if __name__ == "__main__":
    unittest.main()
