"""The general rules 0.1 to 0.5 over the whole program, and the examples of the document."""

import doctest
import importlib
import inspect
import random
import unittest
from itertools import product

from batchtests import errors
from batchtests.columns import Columns
from batchtests.compare import difference, joint_fates, unlike_row
from batchtests.conditions import Condition
from batchtests.eagerness import eager_sets
from batchtests.engines import Engine, batches
from batchtests.errors import BatchError
from batchtests.fates import fate, fate_rows, fates, fates_by_form
from batchtests.feeds import Feed, in_block, trial
from batchtests.orders import alike_orders, any_order
from batchtests.papers import certificate, certificate_fault, paper, row_for
from batchtests.plans import Plan, plain, stops, walk
from batchtests.repairs import least_deferred, needless, shorter
from batchtests.rowsets import RowSet, all_rows, no_rows
from batchtests.samples import samples
from batchtests.texts import read, shown
from batchtests.trees import closes
from batchtests.truths import implied, truth, truth_difference, truth_rows
from helper import changed_engine, random_literals, random_small_plan, runs_differ, ways_of

AB = Columns("a", "b")
FIRST = ("must", "low", ("", "a", 0), ("atmost", "a", "", 9))
SECOND = ("must", "high", ("b", "", 5), ("atmost", "b", "a", 0))
BOTH = Condition(AB, ("and", (FIRST, SECOND)))
OTHER = Condition(AB, ("or", (FIRST, ("missing", "b"), FIRST)))
HOISTED = Plan(BOTH, hoisted=((1,),))
ROWS = [{"a": 3, "b": 2}, {"a": 1, "b": 9}, {"a": -1, "b": 0}]
SELECTED = ("selected",)
LEVELS = ["rows", "output", "error"]

PARAMETERS = {
    "samples": {"samples": "columns literals"},
    "rowsets": {"RowSet": "columns cases", "all_rows": "columns", "no_rows": "columns"},
    "conditions": {"Condition": "columns part"},
    "truths": {"truth": "condition row", "truth_rows": "condition wanted", "implied": "condition other",
               "truth_difference": "condition other"},
    "plans": {"Plan": "condition ways hoisted", "plain": "condition", "walk": "plan", "stops": "plan"},
    "fates": {"fate": "plan row", "fates_by_form": "plan", "fates": "plan", "fate_rows": "plan wanted"},
    "engines": {"Engine": "plan size limit", "batches": "engine rows"},
    "feeds": {"Feed": "engine", "in_block": "feed deed value", "trial": "feed rows"},
    "compare": {"difference": "one other level", "joint_fates": "one other", "unlike_row": "one other"},
    "trees": {"closes": "columns wants tree"},
    "papers": {"row_for": "columns wants", "paper": "columns wants", "certificate": "one other level",
               "certificate_fault": "one other level certificate"},
    "eagerness": {"eager_sets": "engine level"},
    "orders": {"alike_orders": "engine place level", "any_order": "engine places level"},
    "repairs": {"least_deferred": "engine level", "needless": "condition", "shorter": "condition"},
    "texts": {"shown": "condition", "read": "columns text"},
}
METHODS = [
    (Columns.row, "self values"), (RowSet.some, "self"), (RowSet.is_empty, "self"), (RowSet.within, "self other"),
    (Condition.places, "self"), (Condition.literals, "self"), (Condition.codes, "self"), (Plan.way, "self place"),
    (Plan.with_way, "self place way order"), (Plan.with_hoisted, "self places"), (Engine.run, "self rows"),
    (Feed.__call__, "self row"), (Feed.add_all, "self rows"), (Feed.end, "self"),
]


def picture(thing):
    """What the object holds, however deep."""
    if isinstance(thing, dict):
        return {key: picture(value) for key, value in thing.items()}
    if isinstance(thing, (list, tuple)):
        return type(thing)(picture(inside) for inside in thing)
    if type(thing).__module__.startswith("batchtests"):
        return type(thing).__name__, picture(vars(thing))
    return thing


def calls():
    """Functions and methods with arguments of their own, by their names."""
    one, other = Engine(plain(BOTH), 1), Engine(HOISTED, 2, 3)
    wants = [(plain(BOTH), (SELECTED,)), (HOISTED, (("fails", (1,), "high"),))]
    feed = Feed(Engine(plain(BOTH), 4))
    feed(ROWS[0])
    rows = RowSet(AB, (((), (("a", "b", 3),)),))
    table = [dict(row) for row in ROWS]
    return [
        (AB.row, {"values": {"b": None, "a": 3}}),
        (samples, {"columns": AB, "literals": (("a", "b", 3), ("", "a", -1))}),
        (RowSet, {"columns": AB, "cases": (((), (("a", "b", 3),)), (("b",), ()))}),
        (rows.within, {"other": all_rows(AB)}), (rows.some, {}), (rows.is_empty, {}),
        (all_rows, {"columns": AB}), (no_rows, {"columns": AB}),
        (Condition, {"columns": AB, "part": BOTH.part}),
        (BOTH.places, {}), (BOTH.literals, {}), (BOTH.codes, {}),
        (truth, {"condition": BOTH, "row": dict(ROWS[1])}),
        (truth_rows, {"condition": BOTH, "wanted": ("fails", "high")}),
        (implied, {"condition": OTHER, "other": BOTH}), (truth_difference, {"condition": OTHER, "other": BOTH}),
        (Plan, {"condition": BOTH, "ways": {(): ("eager", (1, 0))}}),
        (HOISTED.way, {"place": ()}), (HOISTED.with_way, {"place": (), "way": "eager", "order": (1, 0)}),
        (HOISTED.with_hoisted, {"places": ((0,), ())}),
        (plain, {"condition": BOTH}), (walk, {"plan": HOISTED}), (stops, {"plan": HOISTED}),
        (fate, {"plan": HOISTED, "row": dict(ROWS[1])}), (fates_by_form, {"plan": HOISTED}), (fates, {"plan": HOISTED}),
        (fate_rows, {"plan": HOISTED, "wanted": SELECTED}),
        (one.run, {"rows": table}), (lambda engine, rows: list(batches(rows=rows, engine=engine)), {"engine": other, "rows": table}),
        (trial, {"feed": feed, "rows": table}),
        (in_block, {"feed": feed, "deed": lambda same, rows: same.add_all(rows), "value": [ROWS[0], ROWS[0]]}),
        (difference, {"one": one, "other": other, "level": "output"}),
        (joint_fates, {"one": plain(BOTH), "other": HOISTED}), (unlike_row, {"one": plain(BOTH), "other": HOISTED}),
        (closes, {"columns": AB, "wants": wants, "tree": paper(AB, wants)}),
        (row_for, {"columns": AB, "wants": wants[:1]}), (paper, {"columns": AB, "wants": wants}),
        (certificate, {"one": one, "other": Engine(plain(BOTH), 2), "level": "rows"}),
        (certificate_fault, {"one": one, "other": one, "level": "rows", "certificate": certificate(one, one, "rows")}),
        (eager_sets, {"engine": other, "level": "error"}), (alike_orders, {"engine": other, "place": (), "level": "error"}),
        (any_order, {"engine": one, "places": ((),), "level": "error"}),
        (least_deferred, {"engine": other, "level": "rows"}),
        (needless, {"condition": OTHER}), (shorter, {"condition": OTHER}),
        (shown, {"condition": BOTH}), (read, {"columns": AB, "text": shown(BOTH)}),
    ]


def inner_containers(thing):
    """All lists and dicts in the object, tuples looked through."""
    found = [thing] if isinstance(thing, (list, dict)) else []
    if isinstance(thing, dict):
        thing = list(thing.values())
    if isinstance(thing, (list, tuple)):
        for inside in thing:
            found += inner_containers(inside)
    return found


class TestArguments(unittest.TestCase):
    def test_the_names_of_the_parameters(self):
        for module, entries in PARAMETERS.items():
            for name, parameters in entries.items():
                found = getattr(importlib.import_module("batchtests." + module), name)
                self.assertEqual(found.__module__, "batchtests." + module)
                self.assertEqual(list(inspect.signature(found).parameters), parameters.split())
        for method, parameters in METHODS:
            self.assertEqual(list(inspect.signature(method).parameters), parameters.split())

    def test_by_position_and_by_name_in_any_order(self):
        for called, given in calls():
            expected = picture(called(*given.values()))
            self.assertEqual(picture(called(**given)), expected)
            self.assertEqual(picture(called(**dict(reversed(given.items())))), expected)

    def test_nothing_that_is_passed_is_changed(self):
        for called, given in calls():
            before = picture(given)
            called(**given)
            self.assertEqual(picture(given), before)

    def test_returned_lists_and_dicts_are_new(self):
        for called, given in calls():
            told = called(**given)
            expected = picture(told)
            passed = [id(one) for one in inner_containers(list(given.values()))]
            found = inner_containers(told)
            self.assertEqual(len({id(one) for one in found}), len(found))
            for one in found:
                self.assertNotIn(id(one), passed)
            for one in found:
                one.clear()
            self.assertEqual(picture(called(**given)), expected)

    def test_feeds(self):
        feed = Feed(engine=Engine(limit=2, size=1, plan=plain(BOTH)))
        table = [dict(ROWS[0]), dict(ROWS[0])]
        self.assertEqual(feed(row=table[0]), [0])
        self.assertEqual(feed.add_all(rows=table), [1])
        self.assertEqual(table, [ROWS[0], ROWS[0]])
        self.assertEqual(feed.end(), [])


class TestErrors(unittest.TestCase):
    def test_all_derive_directly_from_one(self):
        self.assertEqual(BatchError.__bases__, (ValueError,))
        classes = [one for one in vars(errors).values() if inspect.isclass(one) and one is not BatchError]
        self.assertEqual(len(classes), 18)
        for one in classes:
            self.assertEqual(one.__bases__, (BatchError,))


class TestTogether(unittest.TestCase):
    def test_the_plans_that_eager_sets_and_repairs_give(self):
        chance = random.Random(171)
        eager, repaired = 0, 0
        for _ in range(25):
            plan = random_small_plan(chance, random_literals(chance, "ab", 3, 2), [1, 2, 3], calm=0)
            engine = Engine(plan, chance.choice([1, 2, 3]), chance.choice([None, 1, 3]))
            wanted = Engine(plain(plan.condition), engine.size, engine.limit)
            ways = ways_of(plan)
            rows = samples(AB, tuple(plan.condition.literals()))
            level = chance.choice(LEVELS)
            pairs = []
            for chosen in eager_sets(engine, level):
                eager += bool(chosen)
                pairs.append((engine, changed_engine(engine, {place: ("eager", ways[place][1]) for place in chosen})))
            for chosen in least_deferred(engine, level):
                repaired += bool(chosen)
                pairs.append((wanted, changed_engine(engine, {place: ("deferred", ways[place][1]) for place in chosen})))
            for one, other in pairs:
                whole = certificate(one, other, level)
                self.assertIsNone(certificate_fault(one, other, level, whole))
                for _ in range(25):
                    table = chance.choices(rows, k=chance.randint(0, 12))
                    results = [one.run(table), other.run(table)]
                    self.assertFalse(runs_differ(level, *results))
                    for feed, result in [(Feed(one), results[0]), (Feed(other), results[1])]:
                        self.assertEqual(trial(feed, table), result)
        self.assertGreater(min(eager, repaired), 3)

    def test_what_is_returned_is_passed_on(self):
        one, other = Engine(plain(BOTH), 2), Engine(HOISTED, 2)
        table = difference(one, other, "rows")
        self.assertNotEqual(one.run(table), other.run(table))
        row = unlike_row(one.plan, other.plan)
        self.assertNotEqual(fate(one.plan, row)[0], fate(other.plan, row)[0])
        for f, g in joint_fates(one.plan, other.plan):
            both = fate_rows(one.plan, f) & fate_rows(other.plan, g)
            self.assertFalse(both.is_empty())
            self.assertIn(row_for(AB, [(one.plan, (f,)), (other.plan, (g,))]), both)
        for f, g in product(fates_by_form(one.plan), fates_by_form(other.plan)):
            both = fate_rows(one.plan, f) & fate_rows(other.plan, g)
            tree = paper(AB, [(one.plan, (f,)), (other.plan, (g,))])
            self.assertEqual(both.is_empty(), tree is not None)
            self.assertEqual(RowSet(AB, both.cases), both)
        short = shorter(OTHER)
        self.assertIsNone(truth_difference(short, OTHER))
        self.assertEqual(read(AB, shown(short)), short)
        orders, table = any_order(one, ((),), "error")
        turned = Engine(one.plan.with_way((), "lazy", orders[0]), 2)
        self.assertNotEqual(one.run(table), turned.run(table))

    def test_the_limits(self):
        columns = Columns("a", "b", "c", "d")
        tests = [("a", "b", 1), ("b", "c", -2), ("c", "d", 0), ("d", "", 5), ("", "a", 3), ("a", "", 10 ** 99)]
        musts = [("must", code, tests[k], ("atmost", *tests[k + 1])) for k, code in enumerate(["x", "y", "x", "z"])]
        inner = ("case", ((("missing", "a"), musts[0]), (("atmost", *tests[5]), musts[1])), ("missing", "d"))
        part = ("and", (("or", (inner, ("not", musts[2]))), ("and", (musts[3], ("missing", "b"))),
                        ("or", (("atmost", *tests[0]), ("missing", "c")))))
        condition = Condition(columns, part)
        self.assertEqual((len(condition.places()), len(condition.literals())), (20, 6))
        engine = Engine(Plan(condition, {(): ("eager", (2, 0, 1))}, hoisted=((1, 0),)), 8, 4)
        ways = ways_of(engine.plan)
        for level in LEVELS:
            for chosen in eager_sets(engine, level):
                other = changed_engine(engine, {place: ("eager", ways[place][1]) for place in chosen})
                self.assertIsNone(difference(engine, other, level))
        self.assertIn((2, 0, 1), alike_orders(engine, (), "error"))
        self.assertEqual(least_deferred(engine, "rows"), [()])
        self.assertIsNone(truth_difference(shorter(condition), condition))
        self.assertEqual(read(columns, shown(condition)), condition)
        rows = samples(columns, tuple(condition.literals()))
        table = (rows * 3)[:200]
        feed = Feed(engine)
        self.assertEqual(trial(feed, table), engine.run(table))


EXAMPLES = """
>>> truth(condition, {"a": 1, "b": None})
'unknown'

>>> stops(Plan(condition, {(): ("lazy", (1, 0))}))
[(1,), (0,)]

>>> stops(Plan(condition, {(): ("deferred", None)}))
[()]

>>> fate(Plan(condition, hoisted=((1,),)), {"a": 20, "b": 9})
('fails', (1,), 'high')

>>> rows = [{"a": 3, "b": 2}, {"a": 1, "b": 9}, {"a": -1, "b": 0}]
>>> Engine(plain(condition), 1).run(rows)
([0], (1, 'high'))

>>> rows = [{"a": 3, "b": 2}, {"a": 1, "b": 9}, {"a": -1, "b": 0}]
>>> Engine(plain(condition), 3).run(rows)
([], (2, 'low'))

>>> one = Engine(plain(condition), 1)
>>> other = Engine(plain(condition), 2)
>>> [difference(one, other, "rows"), len(difference(one, other, "output"))]
[None, 2]

>>> eager_sets(Engine(plain(condition), 1), "rows")
[()]

>>> alike_orders(Engine(plain(condition), 1), (), "rows")
[(0, 1)]

>>> least_deferred(Engine(Plan(condition, hoisted=((1,),)), 1), "rows")
[]

The row after the last example, the examples of points 7.4, 8.4, 10.6 and 15.2:

>>> fate(plain(condition), {"a": -1, "b": 2})
('fails', (0,), 'low')
>>> fate(Plan(condition, {(): ("deferred", None)}), {"a": -1, "b": 2})
('dropped',)

>>> [fate(plan, {"a": 20, "b": 9})[0] for plan in
...  [plain(condition), Plan(condition, {(): ("eager", None)}), Plan(condition, {(): ("deferred", None)})]]
['dropped', 'fails', 'dropped']
>>> [fate(plan, {"a": 1, "b": 9}) for plan in [plain(condition), Plan(condition, {(): ("deferred", None)})]]
[('fails', (1,), 'high'), ('fails', (), 'high')]

>>> [Engine(plain(condition), 2).run(rows), Engine(plain(condition), 1, 1).run(rows)]
[([], (1, 'high')), ([0], None)]

>>> alone = Columns("a")
>>> never = plain(Condition(alone, ("and", (("atmost", "a", "", 0), ("atmost", "", "a", -1)))))
>>> closes(alone, [(never, (("selected",),))],
...     ("missing", "a", ("settled",),
...      ("test", ("a", "", 0),
...       ("test", ("", "a", -1), ("ring", (0, 1)), ("settled",)),
...       ("settled",))))
True

>>> shown(Condition(condition.columns, condition[(0,)]))
'(must low 0 <= a + 0: a <= 0 + 9)'
"""


class TestExamples(unittest.TestCase):
    def test_the_examples(self):
        names = {**globals(), "condition": BOTH}
        test = doctest.DocTestParser().get_doctest(EXAMPLES, names, "examples", None, 0)
        runner = doctest.DocTestRunner()
        runner.run(test)
        self.assertEqual(runner.failures, 0)
        self.assertGreater(runner.tries, 15)


if __name__ == "__main__":
    unittest.main()
