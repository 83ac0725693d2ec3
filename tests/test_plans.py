import random
import unittest

from batchtests.columns import Columns
from batchtests.conditions import Condition
from batchtests.errors import BadPlan, NoPlace
from batchtests.plans import Plan, plain
from helper import OTHER_OBJECTS, joined_places, random_literals, random_part, random_ways, written_ways

AB = Columns("a", "b")
ONE = ("atmost", "a", "", 1)
MUST = ("must", "x", ("a", "b", 0), ONE)
# At (0,) an "or" of three, at (1,) a "not", at (1, 0) a "case", at (1, 0, 2) an "and" of two.
PART = ("and", (("or", (ONE, MUST, ONE)), ("not", ("case", ((ONE, MUST),), ("and", (ONE, ("missing", "b")))))))
CONDITION = Condition(AB, PART)
OTHERS = [(0, 0), (0, 1), (0, 1, 0), (0, 2), (1,), (1, 0, 0), (1, 0, 1), (1, 0, 1, 0), (1, 0, 2, 0), (1, 0, 2, 1)]
NO_PLACES = [(2,), (-1,), (0, 3), (1, 1), (True,), (False,), (0, True), (1, False), (1, 0, 2, 2), ("0",), (0.0,), "and",
             0, None, True, 1.5, b"", (None,), ((),), ((0,),), frozenset(), Ellipsis, int]


class TestChecks(unittest.TestCase):
    def wrong(self, place, why, ways=None, condition=CONDITION, **more):
        with self.assertRaises(BadPlan) as caught:
            Plan(condition, ways, **more)
        self.assertEqual((caught.exception.place, caught.exception.why), (place, why))

    def test_ways_that_are_no_dict(self):
        for thing in OTHER_OBJECTS:
            if thing is not None and not isinstance(thing, dict):
                self.wrong(None, "ways", thing)
                self.wrong(None, "ways", thing, hoisted=[])
        for thing in [(), [], "lazy", ("lazy", None), [((), ("lazy", None))], False, 0]:
            self.wrong(None, "ways", thing)

    def test_none_and_the_empty_dict(self):
        for plan in [Plan(CONDITION), Plan(CONDITION, None), Plan(CONDITION, {}), Plan(CONDITION, ways={}, hoisted=())]:
            self.assertEqual(plan, plain(CONDITION))
            self.assertEqual({place: plan.way(place) for place in joined_places(CONDITION)}, written_ways(CONDITION))
            self.assertEqual(plan.hoisted, ())

    def test_keys_that_are_no_places(self):
        for key in NO_PLACES:
            self.wrong(None, "place", {key: ("lazy", None)})
            self.wrong(None, "place", {(): 7, key: 7})
            self.wrong(None, "place", {key: None, (1,): ("lazy", None)})
            # (True,) is the same key as (1,), so the one that is set first stays.
            self.wrong(None, "place", {key: None, (0,): 7, (1,): ("lazy", None)}, hoisted=7)

    def test_places_of_other_parts(self):
        for key in OTHERS:
            self.wrong(key, "place", {key: ("lazy", None)})
            self.wrong(key, "place", {key: 7})
            self.wrong(key, "place", {(): ("eager", None), key: ("lazy", (0,))})
        for part in [ONE, MUST, ("not", ONE), ("missing", "a")]:
            self.wrong((), "place", {(): ("lazy", None)}, Condition(AB, part))

    def test_ways_that_are_none(self):
        for key in [(), (0,), (1, 0), (1, 0, 2)]:
            for thing in [*OTHER_OBJECTS, "lazy", ("lazy",), ("lazy", None, None), ["lazy", None], (), None,
                          ("Lazy", None), ("", None), (None, None), ("plain", (0, 1)), (("lazy",), None),
                          (["lazy"], None), (None, "lazy"), (True, None), (b"lazy", None), {"lazy": 0, "eager": 1}]:
                self.wrong(key, "way", {key: thing})
            for thing in OTHER_OBJECTS:
                self.wrong(key, "way", {key: (thing, None)})
        self.wrong((1, 0), "way", {(1, 0): ("deferred", None)})
        self.wrong((1, 0), "way", {(1, 0): ("deferred", 7)})
        self.wrong((), "way", {(): ("hurried", (0, 0))})

    def test_orders_that_are_none(self):
        for way in ["lazy", "eager", "deferred"]:
            for thing in [*OTHER_OBJECTS, (0,), (0, 0), (1, 1), (0, 1, 2), (1, 2), (-1, 0), (0, True), (False, 1),
                          (False, True), [0, 1], [1, 0], "01", ("0", "1"), (0.0, 1.0), (0, None), ((0, 1),), (0, 1, 1),
                          {0: 1, 1: 0}, range(2), (1, 10 ** 100), b"\x00\x01", (0, [])]:
                if thing is not None:
                    self.wrong((), "order", {(): (way, thing)})
            for thing in [(0, 1), (0, 1, 1), (0, 1, 3), (1, 2, 3), (2, 1, 0, 3), (0, 2, True), ()]:
                self.wrong((0,), "order", {(0,): (way, thing)})

    def test_an_order_for_a_case(self):
        for way in ["lazy", "eager"]:
            for thing in [(0,), (), (0, 1, 2), [0], 0, False, "", ("lazy", None)]:
                self.wrong((1, 0), "order", {(1, 0): (way, thing)})

    def test_right_ways_and_orders(self):
        for way in ["lazy", "eager", "deferred"]:
            for order in [(0, 1), (1, 0)]:
                self.assertEqual(Plan(CONDITION, {(): (way, order)}).way(()), (way, order))
            for order in [(0, 1, 2), (2, 0, 1), (1, 2, 0)]:
                self.assertEqual(Plan(CONDITION, {(0,): (way, order)}).way((0,)), (way, order))
            self.assertEqual(Plan(CONDITION, {(0,): (way, None)}).way((0,)), (way, (0, 1, 2)))
        self.assertEqual(Plan(CONDITION, {(1, 0): ("eager", None)}).way((1, 0)), ("eager", None))
        self.assertEqual(Plan(CONDITION, {(1, 0): ("lazy", None)}).way((1, 0)), ("lazy", None))

    def test_the_first_key_in_ascending_order_counts(self):
        bad_way, bad_order = ("x", None), ("lazy", (5,))
        self.wrong((), "way", {(1, 0, 2): bad_order, (1,): 7, (0,): bad_order, (): bad_way})
        self.wrong((0,), "order", {(1, 0, 2): bad_way, (1,): 7, (0,): bad_order, (): ("lazy", None)})
        self.wrong((1,), "place", {(1, 0, 2): bad_way, (1,): 7, (0,): ("eager", None)})
        self.wrong((1, 0), "order", {(1, 0, 2): bad_way, (1, 0): ("eager", (0,))})
        self.wrong((0,), "way", {(0, 0): 7, (0,): ["lazy", None]})
        self.wrong((0, 0), "place", {(1,): 7, (0, 0): 7})

    def test_a_key_that_is_no_place_comes_before_the_others(self):
        self.wrong(None, "place", {(): ("x", None), (5,): ("lazy", None)})
        self.wrong(None, "place", {(1,): 7, None: 7}, hoisted=[])

    def test_hoisted(self):
        for thing in [*OTHER_OBJECTS, [(0,)], {(0,)}, {(0,): 1}, None, "", (0,), ((0,), (0,)), ((), (1,), ())]:
            if thing not in ((), ((),)):
                self.wrong(None, "hoisted", hoisted=thing)
        for thing in [*NO_PLACES, [], {}, [0], set(), AB, CONDITION]:
            self.wrong(None, "hoisted", hoisted=(thing,))
            self.wrong(None, "hoisted", hoisted=((0,), thing, ()))
        places = tuple(reversed(CONDITION.places()))
        self.assertEqual(Plan(CONDITION, hoisted=places).hoisted, tuple(CONDITION.places()))

    def test_ways_come_before_hoisted(self):
        self.wrong((0,), "way", {(0,): 7}, hoisted=7)
        self.wrong((0,), "order", {(0,): ("lazy", 7)}, hoisted=((5,),))
        self.wrong(None, "hoisted", {(0,): ("lazy", None)}, hoisted=((5,),))

    def test_hoisted_by_name_only(self):
        with self.assertRaises(TypeError):
            Plan(CONDITION, {}, ())


class TestPlan(unittest.TestCase):
    def test_what_can_be_read(self):
        ways = {(0,): ("deferred", (2, 0, 1)), (1, 0): ("eager", None)}
        plan = Plan(hoisted=((1, 0, 2), (), (0, 1, 0)), ways=ways, condition=CONDITION)
        self.assertEqual(plan.condition, CONDITION)
        self.assertEqual(plan.columns, AB)
        self.assertEqual(plan.hoisted, ((), (0, 1, 0), (1, 0, 2)))
        self.assertIs(type(plan.hoisted), tuple)
        told = {place: plan.way(place) for place in [(), (0,), (1, 0), (1, 0, 2)]}
        self.assertEqual(told, {(): ("lazy", (0, 1)), (0,): ("deferred", (2, 0, 1)), (1, 0): ("eager", None),
                                (1, 0, 2): ("lazy", (0, 1))})
        for pair in told.values():
            self.assertIs(type(pair), tuple)
            self.assertIn(type(pair[1]), (tuple, type(None)))

    def test_the_written_order_of_each_number_of_parts(self):
        for word in ["and", "or"]:
            for many in (1, 2, 3, 4):
                condition = Condition(AB, (word, (ONE,) * many))
                for plan in [plain(condition), Plan(condition, {(): ("eager", None)})]:
                    self.assertEqual(plan.way(())[1], tuple(range(many)))
        for many in (1, 2, 3):
            self.assertEqual(plain(Condition(AB, ("case", ((ONE, ONE),) * many, ONE))).way(()), ("lazy", None))

    def no_place(self, thing):
        plan = Plan(CONDITION, {(0,): ("eager", None)})
        with self.assertRaises(NoPlace):
            plan.way(thing)
        for way, order in [("lazy", None), ("x", None), ("lazy", 7), (7, 7)]:
            with self.assertRaises(NoPlace):
                plan.with_way(thing, way, order)

    def test_no_places(self):
        for thing in [*NO_PLACES, *OTHERS, [], [0], {}, set(), {(): 1}, AB, CONDITION, plain(CONDITION)]:
            self.no_place(thing)
        for thing in OTHER_OBJECTS:
            if thing != ():
                self.no_place(thing)
        for part in [ONE, MUST, ("not", ONE), ("missing", "a")]:
            with self.assertRaises(NoPlace):
                plain(Condition(AB, part)).way(())

    def test_with_way(self):
        ways = {(0,): ("deferred", (2, 0, 1)), (1, 0): ("eager", None)}
        plan = Plan(CONDITION, ways, hoisted=((0,), (1, 0)))
        made = plan.with_way((0,), "eager", (1, 0, 2))
        self.assertEqual(made, Plan(CONDITION, {**ways, (0,): ("eager", (1, 0, 2))}, hoisted=((1, 0), (0,))))
        self.assertEqual(plan.with_way((0,), "lazy"), Plan(CONDITION, {(1, 0): ("eager", None)}, hoisted=plan.hoisted))
        self.assertEqual(plan.with_way((1, 0), "lazy").way((1, 0)), ("lazy", None))
        self.assertEqual(plan.with_way(order=(1, 0), way="deferred", place=()).way(()), ("deferred", (1, 0)))
        self.assertEqual(plan.with_way((), "deferred", None).way((0,)), ("deferred", (2, 0, 1)))
        self.assertEqual(plan, Plan(CONDITION, ways, hoisted=((0,), (1, 0))))
        self.assertEqual(plan.way((0,)), ("deferred", (2, 0, 1)))

    def wrong(self, place, why, act):
        with self.assertRaises(BadPlan) as caught:
            act()
        self.assertEqual((caught.exception.place, caught.exception.why), (place, why))

    def test_with_way_that_is_wrong(self):
        plan = Plan(CONDITION, {(0,): ("eager", (2, 1, 0))})
        for place in [(), (0,), (1, 0), (1, 0, 2)]:
            for way in [*OTHER_OBJECTS, "x", "Lazy", ("lazy", None)]:
                self.wrong(place, "way", lambda: plan.with_way(place, way))
                self.wrong(place, "way", lambda: plan.with_way(place, way, 7))
            for order in [*OTHER_OBJECTS, (0,), (0, 0), [0, 1], (1, True), (0, 1, 2, 3)]:
                if order is not None:
                    self.wrong(place, "order", lambda: plan.with_way(place, "lazy", order))
        self.wrong((1, 0), "way", lambda: plan.with_way((1, 0), "deferred"))
        self.wrong((1, 0), "order", lambda: plan.with_way((1, 0), "eager", (0, 1, 2)))
        self.assertEqual(plan, Plan(CONDITION, {(0,): ("eager", (2, 1, 0))}))

    def test_with_hoisted(self):
        plan = Plan(CONDITION, {(0,): ("eager", (2, 1, 0))}, hoisted=((0,), (1,)))
        made = plan.with_hoisted(((1, 0), ()))
        self.assertEqual(made.hoisted, ((), (1, 0)))
        self.assertEqual(made, Plan(CONDITION, {(0,): ("eager", (2, 1, 0))}, hoisted=((), (1, 0))))
        self.assertEqual(plan.with_hoisted(places=()).hoisted, ())
        self.assertEqual(plan.hoisted, ((0,), (1,)))
        for thing in [*OTHER_OBJECTS, [(0,)], ((0,), (0,)), ((5,),), ((True,),), (0,), None]:
            if thing not in ((), ((),)):
                self.wrong(None, "hoisted", lambda: plan.with_hoisted(thing))
        self.assertEqual(plan.hoisted, ((0,), (1,)))

    def test_copies(self):
        ways = {(0,): ("eager", (2, 1, 0))}
        plan = Plan(CONDITION, ways)
        before = list(ways.items())
        plan.with_way((), "eager")
        self.assertEqual(list(ways.items()), before)
        ways[(0,)] = ("lazy", None)
        ways[()] = ("eager", None)
        ways[(9,)] = 7
        self.assertEqual(plan, Plan(CONDITION, {(0,): ("eager", (2, 1, 0))}))
        self.assertEqual((plan.way((0,)), plan.way(())), (("eager", (2, 1, 0)), ("lazy", (0, 1))))

    def test_plain(self):
        chance = random.Random(41)
        for _ in range(30):
            condition = Condition(AB, random_part(chance, "ab", random_literals(chance, "ab", 3, 2), 4))
            plan = plain(condition=condition)
            self.assertIsInstance(plan, Plan)
            self.assertEqual((plan.condition, plan.columns, plan.hoisted), (condition, AB, ()))
            self.assertEqual({place: plan.way(place) for place in joined_places(condition)}, written_ways(condition))


class TestEqual(unittest.TestCase):
    def test_equal_plans_made_in_unlike_ways(self):
        plan = Plan(CONDITION, {(0,): ("eager", (0, 1, 2)), (1, 0): ("lazy", None)}, hoisted=((1,), (0, 1)))
        for other in [
            Plan(Condition(Columns("a", "b"), PART), {(0,): ("eager", None)}, hoisted=((0, 1), (1,))),
            plain(CONDITION).with_hoisted(((0, 1), (1,))).with_way((0,), "eager"),
            Plan(CONDITION, {(): ("lazy", (0, 1)), (0,): ("eager", None), (1, 0, 2): ("lazy", None)},
                 hoisted=((1,), (0, 1))),
            plan.with_way((), "deferred", (1, 0)).with_way((), "lazy"),
        ]:
            self.assertIs(plan == other, True)
            self.assertIs(plan != other, False)

    def test_unequal_plans(self):
        plans = [
            plain(CONDITION), Plan(CONDITION, {(): ("eager", None)}), Plan(CONDITION, {(): ("lazy", (1, 0))}),
            Plan(CONDITION, {(): ("deferred", None)}), Plan(CONDITION, {(1, 0): ("eager", None)}),
            Plan(CONDITION, {(0,): ("eager", None)}), Plan(CONDITION, hoisted=((),)), Plan(CONDITION, hoisted=((0,),)),
            Plan(CONDITION, hoisted=((), (0,))), plain(Condition(Columns("b", "a"), PART)),
            plain(Condition(AB, ("not", PART))), plain(Condition(AB, ONE)),
        ]
        for k, one in enumerate(plans):
            for m, other in enumerate(plans):
                self.assertIs(one == other, k == m)
                self.assertIs(one != other, k != m)

    def test_objects_of_other_kinds(self):
        plan = plain(CONDITION)
        for thing in [*OTHER_OBJECTS, CONDITION, AB, PART, (CONDITION, {}, ())]:
            self.assertIs(plan == thing, False)
            self.assertIs(thing == plan, False)
            self.assertIs(plan != thing, True)

    def test_random_plans(self):
        chance = random.Random(42)
        for _ in range(30):
            condition = Condition(AB, random_part(chance, "ab", random_literals(chance, "ab", 3, 2), 4))
            ways = random_ways(chance, condition)
            places = condition.places()
            hoisted = chance.sample(places, min(len(places), chance.randrange(3)))
            plan = Plan(condition, ways, hoisted=tuple(hoisted))
            self.assertEqual({place: plan.way(place) for place in ways}, ways)
            self.assertEqual(plan.hoisted, tuple(sorted(hoisted)))
            made = plain(condition).with_hoisted(tuple(reversed(hoisted)))
            for place in chance.sample(list(ways), len(ways)):
                made = made.with_way(place, *ways[place])
            self.assertEqual(made, plan)


if __name__ == "__main__":
    unittest.main()
