import random
import unittest

from batchtests.columns import Columns
from batchtests.conditions import Condition
from batchtests.errors import NoPlace
from helper import OTHER_OBJECTS, random_literals, random_part

A = Columns("a")
AB = Columns("a", "b")
ONE = ("atmost", "a", "", 1)
TWO = ("atmost", "", "b", -2)
GONE = ("missing", "b")
LOW = ("must", "low", ("", "a", 0), ONE)
BRANCHES = ("case", ((ONE, TWO), (GONE, LOW)), ("not", TWO))


def parts_by_place(part, place=()):
    """The parts with their places in reading order, as point 4.2 tells them."""
    found = [(place, part)]
    word = part[0]
    if word == "not":
        inside = {0: part[1]}
    elif word == "must":
        inside = {0: part[3]}
    elif word in ("and", "or"):
        inside = dict(enumerate(part[1]))
    elif word == "case":
        inside = {2 * len(part[1]): part[2]}
        for i, (test, chosen) in enumerate(part[1]):
            inside[2 * i] = test
            inside[2 * i + 1] = chosen
    else:
        inside = {}
    for index in sorted(inside):
        found += parts_by_place(inside[index], place + (index,))
    return found


class TestPlaces(unittest.TestCase):
    def check(self, part, places):
        condition = Condition(AB, part)
        self.assertEqual(condition.places(), places)
        self.assertIs(type(condition.places()), list)
        self.assertTrue(all(type(place) is tuple for place in condition.places()))

    def test_each_form(self):
        self.check(ONE, [()])
        self.check(GONE, [()])
        self.check(LOW, [(), (0,)])
        self.check(("not", ONE), [(), (0,)])
        for word in ["and", "or"]:
            self.check((word, (ONE,)), [(), (0,)])
            self.check((word, (ONE, LOW, GONE, ONE)), [(), (0,), (1,), (1, 0), (2,), (3,)])
        self.check(("case", ((ONE, TWO),), GONE), [(), (0,), (1,), (2,)])
        self.check(BRANCHES, [(), (0,), (1,), (2,), (3,), (3, 0), (4,), (4, 0)])
        self.check(("case", ((ONE, TWO), (GONE, ONE), (LOW, ("not", ONE))), TWO),
                   [(), (0,), (1,), (2,), (3,), (4,), (4, 0), (5,), (5, 0), (6,)])

    def test_the_parts_at_the_places(self):
        condition = Condition(AB, BRANCHES)
        found = [condition[place] for place in condition.places()]
        self.assertEqual(found, [BRANCHES, ONE, TWO, GONE, LOW, ONE, ("not", TWO), TWO])
        condition = Condition(AB, ("or", (("and", (ONE, ("not", LOW))), TWO)))
        self.assertEqual(condition[(0, 1)], ("not", LOW))
        self.assertEqual(condition[(0, 1, 0)], LOW)
        self.assertEqual(condition[(0, 1, 0, 0)], ONE)
        self.assertEqual(condition[0, 0], ONE)
        self.assertEqual(condition[(1,)], TWO)

    def test_reading_order_is_ascending(self):
        chance = random.Random(21)
        for _ in range(60):
            part = random_part(chance, "ab", random_literals(chance, "ab", 4, 3), 4)
            condition = Condition(AB, part)
            expected = parts_by_place(part)
            self.assertEqual(condition.places(), [place for place, _ in expected])
            self.assertEqual(condition.places(), sorted(condition.places()))
            for place, inside in expected:
                self.assertEqual(condition[place], inside)
                self.assertIs(place in condition, True)

    def no_place(self, condition, thing):
        with self.assertRaises(NoPlace):
            condition[thing]
        self.assertIs(thing in condition, False)

    def test_objects_that_are_no_places(self):
        leaf = Condition(AB, ONE)
        condition = Condition(AB, BRANCHES)
        for thing in OTHER_OBJECTS:
            if thing != ():
                self.no_place(leaf, thing)
                self.no_place(condition, thing)
            if type(thing) is not int:
                self.no_place(condition, (thing,))
                self.no_place(condition, (3, thing))
        for thing in [[], [0], [3, 0], 0, 1, None, "", "0", (0.0,), ("0",), {0: 0}, range(1), ((),), ((0,),), (None,)]:
            self.no_place(condition, thing)

    def test_indexes_that_are_too_great_or_negative(self):
        condition = Condition(AB, BRANCHES)
        for thing in [(5,), (-1,), (-5,), (0, 0), (3, 1), (3, -1), (3, 0, 0), (4, 1), (10 ** 100,), (-10 ** 100,)]:
            self.no_place(condition, thing)
        self.no_place(Condition(AB, ("and", (ONE, TWO))), (2,))
        self.no_place(Condition(AB, ("or", (ONE, TWO))), (-1,))
        self.no_place(Condition(AB, ("not", ONE)), (1,))
        self.no_place(Condition(AB, LOW), (1,))
        self.no_place(Condition(AB, GONE), (0,))
        self.no_place(Condition(AB, ONE), (0,))

    def test_true_and_false_are_no_indexes(self):
        condition = Condition(AB, BRANCHES)
        for thing in [(True,), (False,), (3, False), (True, 0), (3, 0, False)]:
            self.no_place(condition, thing)
        self.assertIs((3, 0) in condition, True)

    def test_a_condition_is_not_iterated_over(self):
        with self.assertRaises(TypeError):
            list(Condition(AB, BRANCHES))


class TestLists(unittest.TestCase):
    def test_literals_in_reading_order(self):
        self.assertEqual(Condition(AB, ONE).literals(), [("a", "", 1)])
        self.assertEqual(Condition(AB, GONE).literals(), [])
        self.assertEqual(Condition(AB, LOW).literals(), [("", "a", 0), ("a", "", 1)])
        self.assertEqual(Condition(AB, BRANCHES).literals(), [("a", "", 1), ("", "b", -2), ("", "a", 0)])
        part = ("and", (LOW, ("or", (TWO, ONE)), ("must", "low", ("b", "a", 7), LOW)))
        self.assertEqual(Condition(AB, part).literals(), [("", "a", 0), ("a", "", 1), ("", "b", -2), ("b", "a", 7)])

    def test_unlike_literals(self):
        tests = tuple(("atmost", *literal) for literal in [("a", "b", 0), ("b", "a", 0), ("a", "b", 1), ("a", "b", 0)])
        self.assertEqual(Condition(AB, ("or", tests)).literals(), [("a", "b", 0), ("b", "a", 0), ("a", "b", 1)])
        for literal in Condition(AB, ("or", tests)).literals():
            self.assertIs(type(literal), tuple)

    def test_codes_ascending(self):
        def must(code, inside):
            return ("must", code, ("a", "", 0), inside)

        self.assertEqual(Condition(A, ("missing", "a")).codes(), [])
        self.assertEqual(Condition(AB, LOW).codes(), ["low"])
        part = ("and", (must("zz", must("b", ONE)), must("a", ONE), ("not", must("zz", ONE)), must("ab", ONE)))
        self.assertEqual(Condition(A, part).codes(), ["a", "ab", "b", "zz"])
        part = ("case", ((must("x", ONE), must("w", ONE)),), must("v", ONE))
        self.assertEqual(Condition(A, part).codes(), ["v", "w", "x"])
        self.assertEqual(Condition(A, must("a", ONE)).codes(), ["a"])

    def test_random_conditions(self):
        chance = random.Random(22)
        for _ in range(60):
            part = random_part(chance, "ab", random_literals(chance, "ab", 3, 1), 4)
            condition = Condition(AB, part)
            parts = [inside for _, inside in parts_by_place(part)]
            literals = []
            for inside in parts:
                if inside[0] in ("atmost", "must"):
                    literals.append(inside[1:] if inside[0] == "atmost" else inside[2])
            unlike = [x for k, x in enumerate(literals) if x not in literals[:k]]
            self.assertEqual(condition.literals(), unlike)
            self.assertEqual(condition.codes(), sorted({inside[1] for inside in parts if inside[0] == "must"}))

    def test_told_lists_are_new(self):
        condition = Condition(AB, BRANCHES)
        for tell in [condition.places, condition.literals, condition.codes]:
            first, second = tell(), tell()
            self.assertIs(type(first), list)
            self.assertIsNot(first, second)
            before = list(second)
            first.clear()
            second.append("x")
            self.assertEqual(tell(), before)

    def test_columns_and_part(self):
        condition = Condition(part=BRANCHES, columns=AB)
        self.assertEqual((condition.columns, condition.part), (AB, BRANCHES))
        self.assertIs(type(condition.part), tuple)


class TestEqual(unittest.TestCase):
    def test_equal(self):
        same = ("case", ((ONE, TWO), (GONE, ("must", "l" + "ow", ("", "a", 0), ONE))), ("not", TWO))
        self.assertIs(Condition(AB, BRANCHES) == Condition(Columns("a", "b"), same), True)
        self.assertIs(Condition(AB, BRANCHES) != Condition(Columns("a", "b"), same), False)

    def test_unlike_columns(self):
        for names in [("b", "a"), ("a", "b", "c")]:
            self.assertIs(Condition(AB, BRANCHES) == Condition(Columns(*names), BRANCHES), False)
            self.assertIs(Condition(AB, BRANCHES) != Condition(Columns(*names), BRANCHES), True)
        self.assertIs(Condition(A, ONE) == Condition(AB, ONE), False)

    def test_unlike_parts(self):
        parts = [ONE, TWO, GONE, ("missing", "a"), LOW, ("not", ONE), ("not", ("not", ONE)), ("and", (ONE, TWO)),
                 ("and", (TWO, ONE)), ("or", (ONE, TWO)), ("and", (ONE,)), ("or", (ONE,)), BRANCHES,
                 ("must", "high", ("", "a", 0), ONE), ("atmost", "a", "", 2), ("case", ((ONE, TWO),), ONE)]
        for k, one in enumerate(parts):
            for m, other in enumerate(parts):
                self.assertIs(Condition(AB, one) == Condition(AB, other), k == m)
                self.assertIs(Condition(AB, one) != Condition(AB, other), k != m)

    def test_objects_of_other_kinds(self):
        condition = Condition(AB, BRANCHES)
        for thing in [*OTHER_OBJECTS, BRANCHES, AB, list(BRANCHES), (AB, BRANCHES)]:
            self.assertIs(condition == thing, False)
            self.assertIs(thing == condition, False)
            self.assertIs(condition != thing, True)


if __name__ == "__main__":
    unittest.main()
