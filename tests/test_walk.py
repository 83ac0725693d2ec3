"""The order of visits and the order of stops (points 6.4, 6.5 and 6.8)."""

import random
import unittest

from batchtests.columns import Columns
from batchtests.conditions import Condition
from batchtests.plans import Plan, plain, stops, walk
from helper import Batch, random_literals, random_part, random_ways, written_ways

AB = Columns("a", "b")
ONE = ("atmost", "a", "", 1)


def must(inside=ONE, code="x"):
    return ("must", code, ("a", "b", 0), inside)


def of(part, ways=None, hoisted=()):
    return Plan(Condition(AB, part), ways, hoisted=hoisted)


class TestWalk(unittest.TestCase):
    def check(self, expected, part, ways=None):
        plan = of(part, ways)
        for one in [plan, plan.with_hoisted(tuple(expected)), plan.with_hoisted((expected[-1],))]:
            self.assertEqual(walk(one), expected)
            self.assertIs(type(walk(one)), list)
            self.assertTrue(all(type(place) is tuple for place in walk(one)))

    def test_each_form(self):
        self.check([()], ONE)
        self.check([()], ("missing", "a"))
        self.check([(), (0,)], ("not", ONE))
        self.check([(), (0,), (0, 0)], must(must()))
        for word in ["and", "or"]:
            self.check([(), (0,), (1,), (1, 0), (2,)], (word, (ONE, must(), ONE)))

    def test_orders(self):
        part = ("and", (("or", (ONE, must(), ONE)), ("not", ONE), must(("and", (ONE, ONE)))))
        written = [(), (0,), (0, 0), (0, 1), (0, 1, 0), (0, 2), (1,), (1, 0), (2,), (2, 0), (2, 0, 0), (2, 0, 1)]
        self.check(written, part)
        turned = [(), (2,), (2, 0), (2, 0, 1), (2, 0, 0), (0,), (0, 1), (0, 1, 0), (0, 2), (0, 0), (1,), (1, 0)]
        for way in ["lazy", "eager", "deferred"]:
            self.check(written, part, {(): (way, None), (0,): (way, (0, 1, 2))})
            self.check(turned, part, {(): (way, (2, 0, 1)), (0,): ("lazy", (1, 2, 0)), (2, 0): (way, (1, 0))})

    def test_case(self):
        for way in ["lazy", "eager"]:
            ways = {(): (way, None)}
            self.check([(), (0,), (1,), (2,)], ("case", ((ONE, ONE),), ONE), ways)
            self.check([(), (0,), (2,), (1,), (3,), (4,)], ("case", ((ONE, ONE),) * 2, ONE), ways)
            self.check([(), (0,), (2,), (4,), (1,), (3,), (5,), (6,)], ("case", ((ONE, ONE),) * 3, ONE), ways)
        part = ("case", ((must(), must()), (("not", ONE), must())), ("or", (ONE, must())))
        self.check([(), (0,), (0, 0), (2,), (2, 0), (1,), (1, 0), (3,), (3, 0), (4,), (4, 1), (4, 1, 0), (4, 0)],
                   part, {(4,): ("lazy", (1, 0))})

    def test_new_lists(self):
        plan = of(("and", (must(), must())))
        for tell in [walk, stops]:
            first, second = tell(plan), tell(plan=plan)
            self.assertEqual(first, second)
            first.clear()
            second.append(7)
            self.assertEqual(len(tell(plan)), {walk: 5, stops: 2}[tell])


class TestStops(unittest.TestCase):
    def check(self, expected, part, ways=None):
        plan = of(part, ways)
        for one in [plan, plan.with_hoisted(tuple(plan.condition.places())), plan.with_hoisted(tuple(expected))]:
            self.assertEqual(stops(one), expected)
            self.assertIs(type(stops(one)), list)

    def test_none(self):
        for part in [ONE, ("missing", "a"), ("not", ONE), ("and", (ONE, ONE)), ("case", ((ONE, ONE),), ONE)]:
            self.check([], part)
            self.check([], part, {(): ("eager", None)} if part[0] in ("and", "case") else None)

    def test_must_before_what_is_inside(self):
        self.check([(), (0,), (0, 0)], must(must(must())))
        self.check([(0,), (0, 0, 0)], ("not", must(("not", must()))))

    def test_orders(self):
        part = ("and", (must(), ("or", (must(), must())), must(must())))
        self.check([(0,), (1, 0), (1, 1), (2,), (2, 0)], part)
        self.check([(2,), (2, 0), (0,), (1, 1), (1, 0)], part, {(): ("eager", (2, 0, 1)), (1,): ("lazy", (1, 0))})

    def test_case(self):
        part = ("case", ((must(), must()), (must(must()), must())), must())
        for way in ["lazy", "eager"]:
            self.check([(0,), (2,), (2, 0), (1,), (3,), (4,)], part, {(): (way, None)})

    def test_deferred_parts(self):
        part = ("and", (must(), ("or", (must(), must())), must(must())))
        self.check([()], part, {(): ("deferred", None)})
        self.check([()], part, {(): ("deferred", (2, 1, 0)), (1,): ("deferred", None)})
        self.check([(0,), (1,), (2,), (2, 0)], part, {(1,): ("deferred", None)})
        self.check([(1,), (2,), (2, 0), (0,)], part, {(): ("eager", (1, 2, 0)), (1,): ("deferred", (1, 0))})

    def test_a_deferred_part_without_must_is_a_stop(self):
        self.check([()], ("and", (ONE, ONE)), {(): ("deferred", None)})
        self.check([(0,)], ("not", ("or", (ONE,))), {(0,): ("deferred", None)})

    def test_deferred_within_must_and_must_within_deferred(self):
        part = must(("and", (must(), ("case", ((must(), ("or", (must(), ONE))),), must()))))
        self.check([(), (0,)], part, {(0,): ("deferred", None)})
        self.check([(), (0, 0), (0, 1, 0), (0, 1, 1), (0, 1, 2)], part, {(0, 1, 1): ("deferred", None)})
        self.check([(), (0, 0), (0, 1, 0), (0, 1, 1, 0), (0, 1, 2)], part)
        self.check([(), (0,)], part, {(0,): ("deferred", None), (0, 1, 1): ("deferred", None)})

    def test_random_plans(self):
        chance = random.Random(51)
        for _ in range(150):
            part = random_part(chance, "ab", random_literals(chance, "ab", 3, 2), chance.choice([3, 4]))
            condition = Condition(AB, part)
            ways = random_ways(chance, condition)
            hoisted = tuple(chance.sample(condition.places(), min(2, len(condition.places()))))
            for plan in [Plan(condition, ways), Plan(condition, ways, hoisted=hoisted)]:
                batch = Batch(part, ways, plan.hoisted, [])
                self.assertEqual(walk(plan), batch.visited)
                self.assertEqual(stops(plan), batch.stops)
            batch = Batch(part, written_ways(condition), (), [])
            self.assertEqual((walk(plain(condition)), stops(plain(condition))), (batch.visited, batch.stops))


if __name__ == "__main__":
    unittest.main()
