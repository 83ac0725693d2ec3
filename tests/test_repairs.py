"""Repairs: points 14.1 to 14.4."""

import random
import unittest

from batchtests.columns import Columns
from batchtests.compare import difference
from batchtests.conditions import Condition
from batchtests.engines import Engine
from batchtests.errors import BadLevel
from batchtests.plans import Plan, plain
from batchtests.repairs import least_deferred, needless, shorter
from batchtests.truths import truth, truth_difference
from helper import (
    OTHER_OBJECTS, changed_engine, grid, joined_places, random_joined, random_literals, random_small_plan, subsets,
    ways_of,
)

AB = Columns("a", "b")
FIRST = ("must", "low", ("", "a", 0), ("atmost", "a", "", 9))
SECOND = ("must", "high", ("b", "", 5), ("atmost", "b", "a", 0))
BOTH = Condition(AB, ("and", (FIRST, SECOND)))
LEVELS = ["rows", "output", "error"]
YES, NO = ("atmost", "a", "", 0), ("atmost", "", "a", -1)


def least(engine, level):
    """The least sets, each set of places looked at by `difference`."""
    condition, ways = engine.plan.condition, ways_of(engine.plan)
    places = [place for place, (word, _) in joined_places(condition).items() if word != "case"]
    wanted = Engine(plain(condition), engine.size, engine.limit)
    alike = []
    for chosen in subsets(places):
        changed = changed_engine(engine, {place: ("deferred", ways[place][1]) for place in chosen})
        if difference(wanted, changed, level) is None:
            alike.append(chosen)
    return sorted(one for one in alike if not any(set(other) < set(one) for other in alike))


class TestLeastDeferred(unittest.TestCase):
    def test_each_set_of_places(self):
        chance = random.Random(151)
        met = {"itself": 0, "none": 0, "some": 0, "several": 0}
        for _ in range(90):
            plan = random_small_plan(chance, random_literals(chance, "ab", 3, 2), [1, 2, 3], calm=0)
            engine = Engine(plan, chance.choice([1, 1, 2]), chance.choice([None, None, 2]))
            for level in LEVELS:
                found = least_deferred(engine, level)
                self.assertEqual(found, least(engine, level))
                kind = "itself" if found == [()] else "some" if len(found) == 1 else "several" if found else "none"
                met[kind] += 1
                for chosen in found:
                    self.assertIs(type(chosen), tuple)
                    self.assertEqual(list(chosen), sorted(chosen))
        self.assertGreater(met["itself"], 10)
        self.assertGreater(met["none"], 10)
        self.assertGreater(met["some"], 5)

    def test_an_engine_that_is_alike_already(self):
        for engine in [Engine(plain(BOTH), 1), Engine(plain(BOTH), 3, 2), Engine(Plan(BOTH, hoisted=((0,),)), 1)]:
            for level in LEVELS:
                self.assertEqual(least_deferred(engine, level), [()])

    def test_the_example(self):
        engine = Engine(Plan(BOTH, hoisted=((1,),)), 1)
        for level in LEVELS:
            self.assertEqual(least_deferred(engine, level), [])
        self.assertEqual(least_deferred(level="rows", engine=engine), [])

    def test_an_eager_part_that_is_repaired(self):
        # Its first part cannot fail, so a deferred "and" hides just what a lazy one hides.
        condition = Condition(AB, ("and", (YES, ("must", "x", ("b", "", 0), ("missing", "b")))))
        for way, expected in [("lazy", [()]), ("eager", [((),)]), ("deferred", [()])]:
            engine = Engine(Plan(condition, {(): (way, None)}), 1)
            for level in LEVELS:
                self.assertEqual(least_deferred(engine, level), expected)

    def test_orders_that_are_not_the_written_ones(self):
        # In the order (1, 0) the failing part gets all rows; deferred, the order does not matter.
        inner = ("must", "x", ("b", "", 0), ("not", ("missing", "a")))
        condition = Condition(AB, ("and", (YES, inner)))
        engine = Engine(Plan(condition, {(): ("lazy", (1, 0))}), 1)
        for level in LEVELS:
            self.assertEqual(least_deferred(engine, level), [((),)])
        # Deferred, the place keeps its order: of two failures the other one is reported.
        two = Condition(AB, ("and", (("must", "x", ("a", "", 0), YES), ("must", "y", ("a", "", 0), YES))))
        engine = Engine(Plan(two, {(): ("lazy", (1, 0))}), 1)
        self.assertEqual([least_deferred(engine, level) for level in LEVELS], [[()], [()], []])

    def test_the_list_ascends(self):
        # The set with one place alone comes last, although its place is not the last one.
        low, near = ("a", "", -1), ("a", "b", 1)
        first = ("and", (("atmost", *low), ("must", "y", low, ("atmost", *near))))
        second = ("and", (("atmost", *low), ("must", "y", near, ("atmost", *low))))
        condition = Condition(AB, ("and", (first, second)))
        engine = Engine(Plan(condition, {(0,): ("lazy", (1, 0)), (1,): ("lazy", (1, 0))}), 1)
        found = least_deferred(engine, "rows")
        self.assertEqual(found, least(engine, "rows"))
        self.assertEqual(found, [((), (1,)), ((0,),)])

    def test_a_case_stays(self):
        part = ("case", ((YES, ("missing", "b")),), ("must", "x", ("", "a", -1), YES))
        condition = Condition(AB, part)
        self.assertEqual(least_deferred(Engine(plain(condition), 1), "error"), [()])
        self.assertEqual(least_deferred(Engine(Plan(condition, {(): ("eager", None)}), 1), "error"), [])
        inside = Condition(AB, ("or", (part,)))
        engine = Engine(Plan(inside, {(0,): ("eager", None)}), 1)
        # In a protected place an eager case drops the failures that it does not use.
        for level in LEVELS:
            self.assertEqual(least_deferred(engine, level), [((),)])

    def test_the_same_size_and_limit(self):
        # The engine is compared with the plain one of its own size, not with one of size 1.
        for size, limit in [(1, None), (2, None), (8, 4), (3, 1)]:
            self.assertEqual(least_deferred(Engine(plain(BOTH), size, limit), "error"), [()])

    def test_wrong_levels(self):
        for engine in [Engine(plain(BOTH), 1), Engine(plain(Condition(AB, YES)), 1)]:
            for level in [*OTHER_OBJECTS, "row", "Rows", "rows ", "errors", "", b"rows", ["rows"], ("rows",), engine]:
                with self.assertRaises(BadLevel):
                    least_deferred(engine, level)

    def test_returned_lists_are_new(self):
        engine = Engine(plain(BOTH), 1)
        least_deferred(engine, "rows").clear()
        self.assertEqual(least_deferred(engine, "rows"), [()])


def left_out(part, place):
    """The part without the part at the place inside it."""
    at = place[0]
    inside = list(part[1]) if part[0] in ("and", "or") else None
    if len(place) == 1:
        return (part[0], tuple(inside[:at] + inside[at + 1:]))
    if part[0] == "not":
        return ("not", left_out(part[1], place[1:]))
    if part[0] == "must":
        return (*part[:3], left_out(part[3], place[1:]))
    if part[0] == "case":
        if at == 2 * len(part[1]):
            return ("case", part[1], left_out(part[2], place[1:]))
        branches = [list(branch) for branch in part[1]]
        branches[at // 2][at % 2] = left_out(branches[at // 2][at % 2], place[1:])
        return ("case", tuple(tuple(branch) for branch in branches), part[2])
    inside[at] = left_out(inside[at], place[1:])
    return (part[0], tuple(inside))


def needless_by_rows(condition, rows):
    """The places that can be left out without changing the truth of any of the rows."""
    found = []
    for place in condition.places():
        around = condition[place[:-1]]
        if place and around[0] in ("and", "or") and len(around[1]) > 1:
            other = Condition(condition.columns, left_out(condition.part, place))
            if all(truth(condition, row) == truth(other, row) for row in rows):
                found.append(place)
    return found


class TestNeedless(unittest.TestCase):
    def test_against_all_rows(self):
        chance = random.Random(152)
        rows = grid("ab", range(-4, 5))
        many = 0
        for _ in range(70):
            literals = random_literals(chance, "ab", chance.choice([2, 3]), 1)
            condition = Condition(AB, random_joined(chance, literals, chance.choice([1, 2, 2, 3])))
            if len(condition.places()) > 20:
                continue
            found = needless(condition)
            self.assertEqual(found, needless_by_rows(condition, rows))
            self.assertEqual(found, sorted(found))
            many += len(found)
        self.assertGreater(many, 60)

    def test_bounds_in_one_direction(self):
        tests = [("atmost", "a", "", n) for n in (3, 1, 2)]
        inner = ("and", tuple(tests))
        for part, at in [(inner, ()), (("not", inner), (0,)), (("must", "x", ("b", "", 0), inner), (0,)),
                         (("case", ((inner, YES),), NO), (0,)), (("case", ((("missing", "b"), inner),), NO), (1,)),
                         (("case", ((("missing", "a"), NO), (("missing", "b"), NO)), inner), (4,)),
                         (("case", ((("missing", "b"), NO), (("not", ("missing", "b")), inner)), NO), (3,))]:
            self.assertEqual(needless(Condition(AB, part)), [(*at, 0), (*at, 2)])
        self.assertEqual(needless(Condition(AB, ("and", tuple(tests)))), [(0,), (2,)])
        self.assertEqual(needless(Condition(AB, ("or", tuple(tests)))), [(1,), (2,)])
        self.assertEqual(needless(Condition(AB, ("not", ("or", tuple(tests))))), [(0, 1), (0, 2)])
        self.assertEqual(needless(Condition(AB, ("must", "x", ("b", "", 0), ("and", tuple(tests))))), [(0, 0), (0, 2)])

    def test_equal_bounds(self):
        # Each of two equal parts can be left out alone.
        self.assertEqual(needless(condition=Condition(AB, ("and", (YES, YES)))), [(0,), (1,)])
        self.assertEqual(needless(Condition(AB, ("or", (YES, ("missing", "b"), YES)))), [(0,), (2,)])

    def test_a_missing_value_is_unknown(self):
        # Where b is missing the part is unknown, so a part that always holds is not needless.
        always = ("or", (("atmost", "b", "", 0), ("not", ("atmost", "b", "", 0))))
        self.assertNotIn((1,), needless(Condition(AB, ("and", (YES, always)))))
        same = ("or", (YES, ("not", YES)))
        self.assertEqual(needless(Condition(AB, ("and", (YES, same)))), [(1,), (1, 1)])

    def test_failures_that_cannot_happen(self):
        never = ("must", "x", ("a", "", 1), YES)
        self.assertEqual(needless(Condition(AB, ("and", (YES, never)))), [(1,)])
        self.assertEqual(needless(Condition(AB, ("and", (never, YES)))), [(1,)])
        may = ("must", "x", ("a", "", -1), YES)
        self.assertEqual(needless(Condition(AB, ("and", (YES, may)))), [])

    def test_a_part_that_hides_a_failure(self):
        # What the first part says, the second one says too, but for the rows that would fail there.
        hiding = ("must", "x", ("a", "", 3), ("atmost", "a", "", -2))
        self.assertEqual(needless(Condition(AB, ("and", (("atmost", "a", "", 1), hiding)))), [])
        self.assertEqual(needless(Condition(AB, ("and", (("atmost", "a", "", 1), hiding[3])))), [(0,)])
        # The same code at another part is the same truth.
        again = ("must", "x", ("a", "", 0), YES)
        self.assertEqual(needless(Condition(AB, ("and", (again, again)))), [(0,), (1,)])
        other = ("must", "y", ("a", "", 0), YES)
        self.assertEqual(needless(Condition(AB, ("and", (again, other)))), [(1,)])

    def test_one_part(self):
        for part in [YES, ("and", (YES,)), ("or", (("and", (YES,)),)), ("not", ("or", (FIRST,))), ("missing", "a"), FIRST]:
            self.assertEqual(needless(Condition(AB, part)), [])

    def test_tests_and_branches_stay(self):
        self.assertEqual(needless(Condition(AB, ("case", ((YES, NO), (YES, NO)), NO))), [])

    def test_all_four_can_be_left_out(self):
        self.assertEqual(needless(Condition(AB, ("or", (YES,) * 4))), [(0,), (1,), (2,), (3,)])

    def test_returned_lists_are_new(self):
        condition = Condition(AB, ("and", (YES, YES)))
        needless(condition).clear()
        self.assertEqual(needless(condition), [(0,), (1,)])


class TestShorter(unittest.TestCase):
    def test_again_and_again(self):
        chance = random.Random(153)
        rows = grid("ab", range(-4, 5))
        less = 0
        for _ in range(50):
            literals = random_literals(chance, "ab", chance.choice([2, 3]), 1)
            condition = Condition(AB, random_joined(chance, literals, chance.choice([2, 2, 3])))
            if len(condition.places()) > 20:
                continue
            kept = Condition(AB, condition.part)
            expected = condition
            while needless_by_rows(expected, rows):
                expected = Condition(AB, left_out(expected.part, needless_by_rows(expected, rows)[0]))
            found = shorter(condition)
            self.assertIsInstance(found, Condition)
            self.assertEqual(found, expected)
            self.assertEqual(needless(found), [])
            self.assertIsNone(truth_difference(condition, found))
            self.assertEqual(found.columns, condition.columns)
            self.assertEqual(condition, kept)
            less += found != condition
        self.assertGreater(less, 15)

    def test_one_part_is_left(self):
        for word in ["and", "or"]:
            for many in [1, 2, 3, 4]:
                self.assertEqual(shorter(Condition(AB, (word, (YES,) * many))), Condition(AB, (word, (YES,))))
        nested = ("and", (("or", (YES, YES)), ("and", (YES, ("not", ("or", (NO, NO)))))))
        self.assertEqual(shorter(condition=Condition(AB, nested)).part, ("and", (("and", (("not", ("or", (NO,))),)),)))

    def test_the_first_place_is_left_out(self):
        tests = [("atmost", "a", "", n) for n in (2, 2, 3)]
        self.assertEqual(shorter(Condition(AB, ("and", tuple(tests)))).part, ("and", (tests[1],)))
        self.assertEqual(shorter(Condition(AB, ("or", tuple(tests)))).part, ("or", (tests[2],)))

    def test_nothing_is_needless(self):
        for part in [YES, BOTH.part, ("not", FIRST), ("case", ((YES, NO),), NO)]:
            self.assertEqual(shorter(Condition(AB, part)), Condition(AB, part))


if __name__ == "__main__":
    unittest.main()
