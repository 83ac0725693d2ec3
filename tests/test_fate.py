"""The fate of a row by the rules of points 6.5 to 6.9, and what the form of a plan allows."""

import random
import unittest
from itertools import permutations, product

from batchtests.columns import Columns
from batchtests.conditions import Condition
from batchtests.errors import NoFate, NoRow
from batchtests.fates import fate, fate_rows, fates, fates_by_form
from batchtests.plans import Plan, plain, stops
from batchtests.rowsets import RowSet, all_rows, no_rows
from batchtests.truths import truth
from helper import OTHER_OBJECTS, Batch, random_literals, random_plan, rows_by_signature

AB = Columns("a", "b")
# In the row {"a": 0, "b": None} each of these parts has the truth beside it, where it does not stop the batch.
ROW = {"a": 0, "b": None}
YES = ("atmost", "a", "", 0)
NO = ("atmost", "a", "", -1)
UNKNOWN = ("atmost", "b", "", 0)
X = ("must", "x", ("a", "", -1), YES)
Y = ("must", "y", ("a", "", -1), NO)
KNOWN = [(YES, "yes"), (NO, "no"), (UNKNOWN, "unknown"), (X, ("fails", "x")), (Y, ("fails", "y"))]
FIRST = ("must", "low", ("", "a", 0), ("atmost", "a", "", 9))
SECOND = ("must", "high", ("b", "", 5), ("atmost", "b", "a", 0))
BOTH = Condition(AB, ("and", (FIRST, SECOND)))


def of(part, ways=None, hoisted=(), row=None):
    return fate(Plan(Condition(AB, part), ways, hoisted=hoisted), ROW if row is None else row)


def kind(found):
    """The fate of a row that no place stops and that has this truth at the whole place."""
    return ("selected",) if found == "yes" else ("dropped",)


class TestExamples(unittest.TestCase):
    def test_the_example(self):
        row = {"a": 20, "b": 9}
        self.assertEqual(fate(plain(BOTH), row), ("dropped",))
        self.assertEqual(fate(Plan(BOTH, hoisted=((1,),)), row), ("fails", (1,), "high"))
        self.assertEqual(fate(Plan(BOTH, {(): ("eager", None)}), row), ("fails", (1,), "high"))
        self.assertEqual(fate(Plan(BOTH, {(): ("deferred", None)}), row), ("dropped",))
        row = {"a": 1, "b": 9}
        self.assertEqual(fate(plain(BOTH), row), ("fails", (1,), "high"))
        self.assertEqual(fate(Plan(BOTH, {(): ("deferred", None)}), row), ("fails", (), "high"))

    def test_two_rules_side_by_side(self):
        for around in [lambda part: ("or", (part,)), lambda part: ("or", (part, NO)), lambda part: ("or", (UNKNOWN, part))]:
            for first, order in [(NO, None), (NO, (1, 0)), (UNKNOWN, None), (UNKNOWN, (1, 0))]:
                part = around(("and", (first, X)))
                place = (1,) if part[1][0] == UNKNOWN else (0,)
                for way in ["lazy", "eager", "deferred"]:
                    found = of(part, {(): ("deferred", None), place: (way, order)})
                    hidden = first == NO and (way == "deferred" or (way == "lazy" and order is None))
                    self.assertEqual(found, ("dropped",) if hidden else ("fails", (), "x"))


class TestJoined(unittest.TestCase):
    def expected(self, truths, way, decides, otherwise):
        """The truth at a protected place whose parts have these truths, in its order."""
        deciding = [one for one in truths if one == decides]
        failures = [one for one in truths if type(one) is tuple]
        if way == "lazy":
            found = [one for one in truths if one == decides or type(one) is tuple]
        else:
            found = failures + deciding if way == "eager" else deciding + failures
        return (found + [one for one in truths if one == "unknown"] + [otherwise])[0]

    def test_protected(self):
        for word, decides, otherwise in [("and", "no", "yes"), ("or", "yes", "no")]:
            for chosen in product(KNOWN, repeat=3):
                part = ("and", ((word, tuple(inside for inside, _ in chosen)),))
                for way, order in product(["lazy", "eager", "deferred"], [(0, 1, 2), (2, 0, 1), (1, 2, 0)]):
                    truths = [chosen[index][1] for index in order]
                    told = self.expected(truths, way, decides, otherwise)
                    expected = ("fails", (), told[1]) if type(told) is tuple else kind(told)
                    self.assertEqual(of(part, {(): ("deferred", None), (0,): (way, order)}), expected)

    def test_not_protected(self):
        for word, decides, otherwise in [("and", "no", "yes"), ("or", "yes", "no")]:
            for chosen in product(KNOWN, repeat=3):
                part = (word, tuple(inside for inside, _ in chosen))
                for way, order in product(["lazy", "eager"], permutations(range(3))):
                    seen = []
                    for index in order:
                        if way == "eager" or decides not in [chosen[k][1] for k in seen]:
                            seen.append(index)
                    failed = [((index,), chosen[index][1][1]) for index in seen if type(chosen[index][1]) is tuple]
                    if failed:
                        expected = ("fails", *failed[0])
                    else:
                        expected = kind(self.expected([chosen[k][1] for k in order], way, decides, otherwise))
                    self.assertEqual(of(part, {(): (way, order)}), expected)

    def test_deferred_and_not_protected(self):
        for word, decides, otherwise in [("and", "no", "yes"), ("or", "yes", "no")]:
            for chosen in product(KNOWN, repeat=3):
                parts = tuple(inside for inside, _ in chosen)
                for order in permutations(range(3)):
                    told = self.expected([chosen[k][1] for k in order], "deferred", decides, otherwise)
                    failed = type(told) is tuple
                    self.assertEqual(of((word, parts), {(): ("deferred", order)}),
                                     ("fails", (), told[1]) if failed else kind(told))
                    turned = {"yes": "no", "no": "yes"}.get(told, told)
                    self.assertEqual(of(("not", (word, parts)), {(0,): ("deferred", order)}),
                                     ("fails", (0,), told[1]) if failed else kind(turned))

    def test_deferred_within_deferred(self):
        # The failure of the inner part is a truth for the outer one, and the outer place stops.
        inner = ("or", (X, NO))
        self.assertEqual(of(("or", (NO, inner)), {(): ("deferred", None), (1,): ("deferred", None)}), ("fails", (), "x"))
        self.assertEqual(of(("or", (YES, inner)), {(): ("deferred", None), (1,): ("deferred", None)}), ("selected",))
        self.assertEqual(of(("or", (NO, inner)), {(1,): ("deferred", None)}), ("fails", (1,), "x"))
        self.assertEqual(of(("and", (NO, inner)), {(1,): ("deferred", None)}), ("dropped",))
        self.assertEqual(of(("and", (NO, inner)), {(): ("eager", None), (1,): ("deferred", None)}), ("fails", (1,), "x"))

    def test_parts_without_a_failure(self):
        for way in ["lazy", "eager", "deferred"]:
            for word in ["and", "or"]:
                self.assertEqual(of((word, (YES,)), {(): (way, None)}), ("selected",))
                self.assertEqual(of((word, (NO,)), {(): (way, None)}), ("dropped",))
                self.assertEqual(of((word, (UNKNOWN,)), {(): (way, None)}), ("dropped",))


class TestOtherForms(unittest.TestCase):
    def test_must(self):
        for inside, told in KNOWN:
            part = ("must", "z", ("a", "", 0), inside)
            self.assertEqual(of(part), ("fails", (0,), told[1]) if type(told) is tuple else kind(told))
            self.assertEqual(of(("must", "z", ("a", "", -1), inside)), ("fails", (), "z"))
            self.assertEqual(of(("must", "z", ("b", "", 0), inside)), ("dropped",))
            around = {(): ("deferred", None)}
            self.assertEqual(of(("or", (part,)), around), ("fails", (), told[1]) if type(told) is tuple else kind(told))
            self.assertEqual(of(("or", (("must", "z", ("a", "", -1), inside),)), around), ("fails", (), "z"))
            self.assertEqual(of(("or", (("must", "z", ("b", "", 0), inside),)), around), ("dropped",))

    def test_not(self):
        for inside, told in KNOWN:
            turned = {"yes": "no", "no": "yes"}.get(told, told)
            self.assertEqual(of(("not", inside)), ("fails", (0,), told[1]) if type(told) is tuple else kind(turned))
            self.assertEqual(of(("and", (("not", inside),)), {(): ("deferred", None)}),
                             ("fails", (), told[1]) if type(told) is tuple else kind(turned))

    def case(self, tests, parts, eager):
        """Where a failure counts, by index, and the truth at a protected place."""
        decided = [i for i, (_, told) in enumerate(tests) if told == "yes" or type(told) is tuple]
        first = decided[0] if decided else len(tests)
        failed = decided and type(tests[first][1]) is tuple
        told = tests[first][1] if failed else parts[first][1]
        if eager:
            seen = [2 * i for i in range(len(tests))] + [2 * i + 1 for i in range(len(tests))] + [2 * len(tests)]
        else:
            seen = [2 * i for i in range(len(tests)) if i <= first]
            if not failed:
                seen.append(2 * first + 1 if decided else 2 * first)
        by_index = {}
        for i, (_, one) in enumerate(tests):
            by_index[2 * i] = one
        for i, (_, one) in enumerate(parts):
            by_index[2 * i + 1 if i < len(tests) else 2 * i] = one
        return [(index, by_index[index]) for index in seen], told

    def test_case(self):
        for many in (1, 2):
            for tests in product(KNOWN, repeat=many):
                for parts in product(KNOWN if many == 1 else KNOWN[1:4], repeat=many + 1):
                    part = ("case", tuple((tests[i][0], parts[i][0]) for i in range(many)), parts[many][0])
                    for way in ["lazy", "eager"]:
                        seen, told = self.case(tests, parts, way == "eager")
                        failed = [(index, one) for index, one in seen if type(one) is tuple]
                        expected = ("fails", (failed[0][0],), failed[0][1][1]) if failed else kind(told)
                        self.assertEqual(of(part, {(): (way, None)}), expected)
                        expected = ("fails", (), told[1]) if type(told) is tuple else kind(told)
                        self.assertEqual(of(("and", (part,)), {(): ("deferred", None), (0,): (way, None)}), expected)

    def test_case_with_three_branches(self):
        codes = [("must", code, ("a", "", -1), YES) for code in ("p", "q", "r", "s")]
        for tests in product(KNOWN, repeat=3):
            parts = [(inside, ("fails", inside[1])) for inside in codes]
            part = ("case", tuple((tests[i][0], codes[i]) for i in range(3)), codes[3])
            for way in ["lazy", "eager"]:
                seen, told = self.case(tests, parts, way == "eager")
                failed = [(index, one) for index, one in seen if type(one) is tuple]
                self.assertEqual(of(part, {(): (way, None)}), ("fails", (failed[0][0],), failed[0][1][1]))
                self.assertEqual(of(("or", (part,)), {(): ("deferred", None), (0,): (way, None)}),
                                 ("fails", (), told[1]))


class TestHoisted(unittest.TestCase):
    def test_a_part_that_no_row_is_passed_to(self):
        for part, place in [
            (("and", (NO, X)), (1,)), (("or", (YES, X)), (1,)), (("case", ((YES, NO), (X, NO)), YES), (2,)),
            (("case", ((YES, NO),), X), (2,)), (("case", ((NO, X),), YES), (1,)), (("case", ((YES, NO), (NO, X)), NO), (3,)),
            (("must", "z", ("b", "", 0), X), (0,)),
        ]:
            self.assertNotEqual(of(part)[0], "fails")
            self.assertEqual(of(part, hoisted=(place,)), ("fails", place, "x"))

    def test_the_truth_there_is_dropped(self):
        for part, place, expected in [
            (("and", (NO, YES)), (1,), ("dropped",)), (("or", (YES, NO)), (1,), ("selected",)),
            (("case", ((YES, NO), (YES, YES)), YES), (2,), ("dropped",)), (("case", ((YES, YES),), NO), (2,), ("selected",)),
            (("case", ((NO, YES),), NO), (1,), ("dropped",)), (("must", "z", ("b", "", 0), YES), (0,), ("dropped",)),
            (("and", (UNKNOWN, NO, YES)), (2,), ("dropped",)),
        ]:
            self.assertEqual(of(part), expected)
            self.assertEqual(of(part, hoisted=(place,)), expected)

    def test_places_inside_a_hoisted_one(self):
        inner = ("and", (YES, ("not", X)))
        part = ("or", (YES, inner))
        self.assertEqual(of(part), ("selected",))
        self.assertEqual(of(part, hoisted=((1,),)), ("fails", (1, 1, 0), "x"))
        self.assertEqual(of(part, hoisted=((1, 1),)), ("fails", (1, 1, 0), "x"))
        self.assertEqual(of(part, hoisted=((1, 1, 0),)), ("fails", (1, 1, 0), "x"))
        self.assertEqual(of(part, hoisted=((1, 0),)), ("selected",))
        # A hoisted place passes rows on by its own rules: here the first part keeps the row.
        part = ("or", (YES, ("and", (NO, X))))
        self.assertEqual(of(part, hoisted=((1,),)), ("selected",))
        self.assertEqual(of(part, hoisted=((1, 1),)), ("fails", (1, 1), "x"))

    def test_must_above_a_hoisted_place(self):
        self.assertEqual(of(("must", "z", ("a", "", -1), X), hoisted=((0,),)), ("fails", (), "z"))
        self.assertEqual(of(("must", "z", ("b", "", -1), X), hoisted=((0,),)), ("fails", (0,), "x"))

    def test_protected_hoisted_places(self):
        for part, place in [(("and", (NO, X)), (1,)), (("or", (YES, X)), (1,))]:
            found = of(part)
            self.assertEqual(of(part, {(): ("deferred", None)}, (place,)), found)
            around = ("or", (part,))
            self.assertEqual(of(around, {(): ("deferred", None)}, ((0, 1),)), found)
            self.assertEqual(of(around, hoisted=((0, 1),)), ("fails", (0, 1), "x"))

    def test_a_hoisted_deferred_part(self):
        part = ("and", (NO, ("or", (X, UNKNOWN))))
        self.assertEqual(of(part, {(1,): ("deferred", None)}), ("dropped",))
        self.assertEqual(of(part, {(1,): ("deferred", None)}, ((1,),)), ("fails", (1,), "x"))
        # The hoisted place inside is protected, and the deferred part uses the rows of its own list alone.
        self.assertEqual(of(part, {(1,): ("deferred", None)}, ((1, 0),)), ("dropped",))

    def test_the_whole_part_hoisted(self):
        for part, _ in KNOWN:
            self.assertEqual(of(part, hoisted=((),)), of(part))

    def test_an_earlier_stop_in_the_walk_counts(self):
        part = ("and", (("or", (YES, X)), Y))
        self.assertEqual(of(part), ("fails", (1,), "y"))
        self.assertEqual(of(part, hoisted=((0, 1),)), ("fails", (0, 1), "x"))
        self.assertEqual(of(part, {(): ("lazy", (1, 0))}, ((0, 1),)), ("fails", (1,), "y"))


class TestRandom(unittest.TestCase):
    def plans(self, many, seed, names="ab"):
        chance = random.Random(seed)
        for _ in range(many):
            literals = random_literals(chance, names, 4, 2)
            plan, ways = random_plan(chance, names, literals, chance.choice([3, 4, 4]))
            yield plan, ways, rows_by_signature(names, literals, range(-9, 10) if len(names) < 3 else range(-5, 6))

    def test_fates_against_the_rules(self):
        for names, many in [("ab", 120), ("a", 20), ("cab", 8)]:
            for plan, ways, rows in self.plans(many, 61, names):
                for row in rows:
                    batch = Batch(plan.condition.part, ways, plan.hoisted, [row])
                    self.assertEqual(fate(plan, row), batch.fate(), (plan.condition.part, ways, plan.hoisted, row))

    def test_the_plain_plan_against_the_truth(self):
        for plan, _, rows in self.plans(80, 62):
            for row in rows:
                told = truth(plan.condition, row)
                found = fate(plain(plan.condition), row)
                if type(told) is tuple:
                    self.assertEqual((found[0], found[2]), told)
                else:
                    self.assertEqual(found, kind(told))

    def test_fates_and_their_rows(self):
        for plan, _, rows in self.plans(60, 63):
            by_form = fates_by_form(plan)
            met = [fate(plan, row) for row in rows]
            self.assertEqual(fates(plan), [one for one in by_form if one in met])
            self.assertTrue(all(one in by_form for one in met))
            whole = no_rows(plan.columns)
            for one in by_form:
                found = fate_rows(plan, one)
                self.assertIsInstance(found, RowSet)
                for row in rows:
                    self.assertIs(row in found, fate(plan, row) == one)
                self.assertIs(found.is_empty(), one not in met)
                if not found.is_empty():
                    self.assertEqual(fate(plan, found.some()), one)
                self.assertTrue((whole & found).is_empty())
                self.assertEqual(RowSet(found.columns, found.cases), found)
                whole = whole | found
            self.assertEqual(whole, all_rows(plan.columns))


class TestByForm(unittest.TestCase):
    def check(self, expected, part, ways=None):
        plan = Plan(Condition(AB, part), ways)
        self.assertEqual(fates_by_form(plan), [("selected",), ("dropped",)] + expected)
        self.assertEqual(fates_by_form(plan.with_hoisted(tuple(plan.condition.places()))), fates_by_form(plan))
        self.assertIs(type(fates_by_form(plan=plan)), list)

    def test_places_in_the_order_of_stops(self):
        self.check([], YES)
        self.check([("fails", (0,), "low"), ("fails", (1,), "high")], BOTH.part)
        self.check([("fails", (1,), "high"), ("fails", (0,), "low")], BOTH.part, {(): ("eager", (1, 0))})
        self.check([("fails", (), "z"), ("fails", (0,), "x")], ("must", "z", ("a", "", 0), X))

    def test_codes_of_deferred_parts(self):
        self.check([("fails", (), "high"), ("fails", (), "low")], BOTH.part, {(): ("deferred", None)})
        self.check([], ("and", (YES, NO)), {(): ("deferred", None)})
        inner = ("case", ((("must", "zz", ("a", "", 0), ("must", "b", ("a", "", 0), YES)), ("not", Y)),), ("or", (X, X)))
        part = ("and", (("must", "c", ("a", "", 0), ("or", (inner, Y))), X))
        self.check([("fails", (0,), "c"), *[("fails", (0, 0), code) for code in ("b", "x", "y", "zz")],
                    ("fails", (1,), "x")], part, {(0, 0): ("deferred", None)})
        self.check([("fails", (0,), "c"), *[("fails", (0, 0), code) for code in ("b", "x", "y", "zz")],
                    ("fails", (1,), "x")], part, {(0, 0): ("deferred", (1, 0)), (0, 0, 0, 2): ("deferred", None)})
        self.check([*[("fails", (), code) for code in ("b", "c", "x", "y", "zz")]], part, {(): ("deferred", (1, 0))})

    def test_fates_that_no_row_has(self):
        low = ("must", "low", ("", "a", 0), YES)
        condition = Condition(AB, ("and", (low, ("must", "under", ("", "a", 5), NO))))
        plan = plain(condition)
        self.assertEqual(fates_by_form(plan)[2:], [("fails", (0,), "low"), ("fails", (1,), "under")])
        self.assertEqual(fates(plan), [("dropped",), ("fails", (0,), "low")])
        # Below -5 both parts fail, and the first failure counts; from there on the second one is "no".
        deferred = plan.with_way((), "deferred")
        self.assertEqual(fates_by_form(deferred)[2:], [("fails", (), "low"), ("fails", (), "under")])
        self.assertEqual(fates(plan=deferred), [("dropped",), ("fails", (), "low")])
        self.assertEqual(fate_rows(plan, ("fails", (1,), "under")), no_rows(AB))
        self.assertEqual(fate_rows(plan, ("selected",)), no_rows(AB))
        self.assertEqual(fate_rows(wanted=("fails", (0,), "low"), plan=plan), RowSet(AB, (
            ((), (("a", "", -1),)), (("b",), (("a", "", -1),)))))

    def test_objects_that_are_no_fates_by_form(self):
        plan = plain(BOTH)
        for thing in [*OTHER_OBJECTS, "selected", ["selected"], ("dropped", ()), ("fails",), ("fails", (0,)), ("yes",),
                      ("fails", (0,), "high"), ("fails", (1,), "low"), ("fails", (), "low"), ("fails", (2,), "low"),
                      ("fails", [0], "low"), ["fails", (0,), "low"], ("fails", (0,), "low", 1), ("fails", "low"),
                      ("fails", (0, 0), "low"), ("fails", 0, "low"), ("selected", "dropped"), ("Selected",), BOTH, plan]:
            with self.assertRaises(NoFate):
                fate_rows(plan, thing)
        deferred = plan.with_way((), "deferred")
        with self.assertRaises(NoFate):
            fate_rows(deferred, ("fails", (0,), "low"))
        with self.assertRaises(NoFate):
            fate_rows(deferred, ("fails", (), "other"))

    def test_new_lists(self):
        for tell in [fates, fates_by_form]:
            first, second = tell(plain(BOTH)), tell(plain(BOTH))
            self.assertEqual(first, second)
            first.clear()
            second.append(7)
            self.assertEqual(len(tell(plain(BOTH))), 4)


class TestRow(unittest.TestCase):
    def wrong(self, name, row):
        with self.assertRaises(NoRow) as caught:
            fate(Plan(BOTH, hoisted=((1,),)), row)
        self.assertEqual(caught.exception.name, name)

    def test_objects_that_are_no_rows(self):
        for thing in OTHER_OBJECTS:
            if not isinstance(thing, dict):
                self.wrong(None, thing)
        self.wrong("a", {})
        self.wrong("b", {"a": 1})
        self.wrong("a", {"a": True, "b": "x"})
        self.wrong("b", {"a": -1, "b": False})
        self.wrong(None, {"a": 1, "b": 1, "c": 1})

    def test_the_row_stays_as_it_is(self):
        row = {"b": 9, "a": 20}
        self.assertEqual(fate(row=row, plan=plain(BOTH)), ("dropped",))
        self.assertEqual(list(row.items()), [("b", 9), ("a", 20)])


class TestLimits(unittest.TestCase):
    def test_a_great_plan(self):
        columns = Columns(*"abcd")
        n = 10 ** 99
        pool = [("a", "b", n), ("c", "d", 0), ("", "a", -n), ("b", "", 5), ("d", "a", 1 - n), ("c", "b", -1)]
        tests = [("atmost", *literal) for literal in pool]
        one = ("must", "p", pool[0], ("or", (tests[1], ("must", "q", pool[2], ("missing", "d")))))
        part = ("and", (("case", ((one, tests[3]), (tests[4], ("missing", "a"))), tests[5]),
                        ("or", (("must", "r", pool[4], tests[2]), tests[0], ("not", tests[1])))))
        condition = Condition(columns, part)
        for ways in [{}, {(): ("deferred", (1, 0))}, {(0,): ("eager", None), (1,): ("deferred", None)}]:
            plan = Plan(condition, ways, hoisted=((0, 0, 0, 1),))
            whole = no_rows(columns)
            for found in fates_by_form(plan):
                rows = fate_rows(plan, found)
                self.assertTrue((rows & whole).is_empty())
                self.assertIs(rows.is_empty(), found not in fates(plan))
                whole = whole | rows
            self.assertEqual(whole, all_rows(columns))
            self.assertLessEqual(len(stops(plan)), 4)


if __name__ == "__main__":
    unittest.main()
