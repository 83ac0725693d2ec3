"""Trees that show a claim: points 10.1 to 10.7."""

import random
import unittest
from itertools import product

from batchtests.columns import Columns
from batchtests.conditions import Condition
from batchtests.engines import Engine
from batchtests.errors import BadWants, Unlike
from batchtests.fates import fates_by_form
from batchtests.feeds import Feed
from batchtests.plans import Plan, plain
from batchtests.trees import closes
from helper import (
    OTHER_OBJECTS, full_tree, is_ring_of, joint_rows, random_literals, random_plan, settled_fates, tree_closes,
)

A = Columns("a")
AB = Columns("a", "b")
SETTLED = ("settled",)
LOW, HIGH = ("a", "", 0), ("", "a", -1)
NEVER = plain(Condition(A, ("and", (("atmost", *LOW), ("atmost", *HIGH)))))
WANTS = [(NEVER, (("selected",),))]
RING = ("ring", (0, 1))
EXAMPLE = ("missing", "a", SETTLED, ("test", LOW, ("test", HIGH, RING, SETTLED), SETTLED))
ANY = plain(Condition(AB, ("missing", "a")))
# A want that nothing meets, so that all its ends are right; what is tested is the rest of the tree.
NOTHING = [(ANY, ())]


def steps_of(tested):
    return [(a, b, n) if truth else (b, a, -n - 1) for (a, b, n), truth in tested.items()]


def ring_by_rules(tested):
    """A ring of the tests without a step twice, or None."""
    steps = steps_of(tested)

    def from_here(indexes):
        if is_ring_of(steps, indexes):
            return indexes
        for index in range(len(steps)):
            if index not in indexes and steps[index][0] == steps[indexes[-1]][1]:
                found = from_here(indexes + (index,))
                if found:
                    return found
        return None
    return next((ring for ring in (from_here((index,)) for index in range(len(steps))) if ring), None)


def standard_tree(wants, names):
    """The full tree with a ring at each end that has one, and ("settled",) at the others."""
    def end(gone, tested):
        ring = ring_by_rules(tested)
        return ("ring", ring) if ring else SETTLED
    return full_tree([plan for plan, _ in wants], names, end)


def nodes_of(tree, path=()):
    """The paths of all nodes of a tree."""
    found = [path]
    if tree[0] in ("missing", "test"):
        for at in (2, 3):
            found += nodes_of(tree[at], path + (at,))
    return found


def item_at(thing, path):
    for at in path:
        thing = thing[at]
    return thing


def replaced(thing, path, other):
    """The nested tuple with another item at the path."""
    if not path:
        return other
    at = path[0]
    return thing[:at] + (replaced(thing[at], path[1:], other),) + thing[at + 1:]


def known_at(tree, path):
    """The columns and literals that are asked before the node, with their answers."""
    gone, tested = {}, {}
    for length in range(len(path)):
        node = item_at(tree, path[:length])
        (gone if node[0] == "missing" else tested)[node[1]] = path[length] == 2
    return gone, tested


def all_paths(thing, path=()):
    """The paths of all items of nested tuples."""
    found = [path]
    if type(thing) is tuple:
        for at, inside in enumerate(thing):
            found += all_paths(inside, path + (at,))
    return found


def random_claim(chance, names, many, bound, values, depth=3, holding=True):
    """Wants whose claim holds, or not; the form of one plan alone does not show that it holds."""
    while True:
        literals = random_literals(chance, names, many, bound)
        one, other = [random_plan(chance, names, literals, depth)[0] for _ in range(2)]
        had = list(joint_rows(one, other, values))
        pairs = [(f, g) for f in fates_by_form(one) for g in fates_by_form(other) if ((f, g) not in had) == holding]
        if pairs and len(set(one.condition.literals() + other.condition.literals())) > 1:
            f, g = chance.choice(pairs)
            wants = [(one, (f,)), (other, (g,))]
            if not holding:
                wants = [(plan, (*fates, chance.choice(fates_by_form(plan)))) for plan, fates in wants]
            chance.shuffle(wants)
            if all(set(settled_fates(plan, {}, {})) & set(fates) for plan, fates in wants):
                return wants


class TestExample(unittest.TestCase):
    def test_the_example(self):
        self.assertIs(closes(A, WANTS, EXAMPLE), True)
        self.assertIs(closes(tree=EXAMPLE, wants=WANTS, columns=A), True)
        for path in nodes_of(EXAMPLE):
            if item_at(EXAMPLE, path) != SETTLED:
                self.assertIs(closes(A, WANTS, replaced(EXAMPLE, path, SETTLED)), False)
        self.assertIs(closes(A, WANTS, replaced(EXAMPLE, (3, 2, 2), ("ring", (1, 0)))), True)
        self.assertIs(closes(A, WANTS, replaced(EXAMPLE, (3, 2, 3), RING)), False)

    def test_columns_that_are_equal(self):
        self.assertIs(closes(Columns("a"), WANTS, EXAMPLE), True)


class TestFullTrees(unittest.TestCase):
    def test_claims_that_hold_and_that_do_not(self):
        chance = random.Random(111)
        for holding in [True, False]:
            for names, many, bound, values in [("a", 4, 3, range(-8, 9)), ("ab", 3, 2, range(-6, 7))]:
                for _ in range(12):
                    wants = random_claim(chance, names, many, bound, values, holding=holding)
                    tree = standard_tree(wants, names)
                    columns = Columns(*names)
                    self.assertIs(closes(columns, wants, tree), holding)
                    self.assertIs(tree_closes(names, wants, tree), holding)

    def test_ends_at_each_node(self):
        chance = random.Random(112)
        met = {True: 0, False: 0}
        for _ in range(24):
            wants = random_claim(chance, "ab", 3, 2, range(-6, 7), depth=chance.choice([3, 3, 4]))
            tree = standard_tree(wants, "ab")
            for path in nodes_of(tree):
                gone, tested = known_at(tree, path)
                right = any(not set(settled_fates(plan, gone, tested)) & set(fates) for plan, fates in wants)
                met[right] += 1
                self.assertIs(closes(AB, wants, replaced(tree, path, SETTLED)), right)
        self.assertGreater(min(met.values()), 60)

    def test_ends_of_one_want_for_each_fate(self):
        chance = random.Random(113)
        for _ in range(60):
            plan, _ = random_plan(chance, "ab", random_literals(chance, "ab", 3, 3), 4)
            for gone in [{}, {"a": True}, {"b": False}, {"a": False, "b": False}]:
                can = settled_fates(plan, gone, {})
                for fate in fates_by_form(plan):
                    tree = SETTLED
                    for name in gone:
                        # The other side of each column is another claim's: a want without fates closes it.
                        tree = ("missing", name, tree, tree)
                    expected = all(
                        fate not in settled_fates(plan, dict(zip(gone, sides)), {})
                        for sides in product([True, False], repeat=len(gone))
                    )
                    self.assertIs(closes(AB, [(plan, (fate,))], tree), expected)
                    self.assertTrue(fate not in can or not expected)

    def test_spoiled_trees(self):
        chance = random.Random(114)
        others = [
            "missing", "test", "ring", "settled", "", "a", "b", "c", "Ring", 0, 1, -1, 2, True, False, None, 1.0, (), (0,),
            (0, 0), (1, 0), (0, 1, 0), [0], (True,), (0.0,), SETTLED, RING, ["settled"], ("settled", 1), ("ring",), ("ring", ()),
            ("a", "", 0), ("a", "a", 0), ("a", "b", 0), ("b", "a", -1), ("", "", 0), ("a", "c", 0), ("a", "", 10 ** 99),
            ("a", "", True), ("a", "", 0.0), ("a", ""), ["a", "", 0], ("a", None, 0), {}, b"a", 10 ** 99, EXAMPLE,
        ]
        met = {True: 0, False: 0}
        for _ in range(25):
            wants = random_claim(chance, "ab", 2, 2, range(-6, 7))
            tree = standard_tree(wants, "ab")
            for _ in range(40):
                path = chance.choice(all_paths(tree))
                item = item_at(tree, path)
                spoils = [chance.choice(others)]
                if type(item) is tuple:
                    spoils += [list(item), item + (chance.choice(others),), item[:-1], item[::-1]]
                    at = chance.randint(0, max(0, len(item) - 1))
                    spoils += [item[:at] + item[at + 1:], item[:at] + (chance.choice(others),) + item[at + 1:]]
                if path:
                    spoils.append(item_at(tree, chance.choice(all_paths(tree))))
                spoiled = replaced(tree, path, chance.choice(spoils))
                expected = tree_closes("ab", wants, spoiled)
                met[expected] += 1
                self.assertIs(closes(AB, wants, spoiled), expected, (wants, spoiled))
        self.assertGreater(min(met.values()), 15)


class TestForms(unittest.TestCase):
    def assert_closes(self, tree, expected, wants=None, columns=AB):
        wants = NOTHING if wants is None else wants
        self.assertIs(closes(columns, wants, tree), expected)
        self.assertIs(tree_closes(columns.names, wants, tree), expected)

    def below(self, tree, names="ab"):
        """The tree at the end where these columns are present, with ("settled",) at all other ends."""
        for name in reversed(names):
            tree = ("missing", name, SETTLED, tree)
        return tree

    def test_objects_that_are_no_trees(self):
        engine = Engine(ANY, 1)
        for thing in [*OTHER_OBJECTS, ANY, engine, Feed(engine), "settled", ["settled"], ("settled",) * 2, ("Settled",),
                      (b"settled",), (SETTLED,), ("missing",), ("test",), ("ring",), ("settled", ()), ("", ), (None,),
                      ([],), ({},), ("missing", "a", SETTLED), ("missing", "a", SETTLED, SETTLED, SETTLED)]:
            self.assertIs(closes(AB, NOTHING, thing), False)
            self.assertIs(closes(AB, [], thing), False)
            for tree in [("missing", "a", thing, SETTLED), ("missing", "a", SETTLED, thing),
                         self.below(("test", LOW, thing, SETTLED)), self.below(("test", LOW, SETTLED, thing))]:
                self.assertIs(closes(AB, NOTHING, tree), False)
            if thing != ("a",) and thing != "a":
                self.assertIs(closes(AB, NOTHING, ("missing", thing, SETTLED, SETTLED)), False)
            self.assertIs(closes(AB, NOTHING, self.below(("test", thing, SETTLED, SETTLED))), False)
            self.assertIs(closes(AB, NOTHING, self.below(("test", LOW, ("ring", thing), SETTLED))), False)
            self.assertIs(closes(AB, NOTHING, self.below(("test", LOW, ("ring", (thing,)), SETTLED))), False)
            for literal in [(thing, "", 0), ("a", thing, 0)]:
                if thing not in ("", "a", "b"):
                    self.assertIs(closes(AB, NOTHING, self.below(("test", literal, SETTLED, SETTLED))), False)
            if type(thing) is not int:
                self.assertIs(closes(AB, NOTHING, self.below(("test", ("a", "b", thing), SETTLED, SETTLED))), False)

    def test_columns(self):
        self.assert_closes(("missing", "a", SETTLED, SETTLED), True)
        self.assert_closes(("missing", "b", ("missing", "a", SETTLED, SETTLED), SETTLED), True)
        self.assert_closes(("missing", "a", ("missing", "a", SETTLED, SETTLED), SETTLED), False)
        self.assert_closes(("missing", "a", SETTLED, ("missing", "a", SETTLED, SETTLED)), False)
        self.assert_closes(("missing", "a", SETTLED, ("missing", "b", SETTLED, ("missing", "a", SETTLED, SETTLED))), False)
        # The same column in two branches is asked once along each of them.
        self.assert_closes(("missing", "a", ("missing", "b", SETTLED, SETTLED), ("missing", "b", SETTLED, SETTLED)), True)
        for name in ["c", "", "A", "ab", b"a", ("a",), ["a"], None, 0, True]:
            self.assert_closes(("missing", name, SETTLED, SETTLED), False)

    def test_literals(self):
        for literal in [("a", "b", 0), ("b", "a", -3), ("a", "", 10 ** 100 - 1), ("", "b", -10 ** 100 + 1), ("", "a", 7)]:
            self.assert_closes(self.below(("test", literal, SETTLED, SETTLED)), True)
        for literal in [("a", "a", 0), ("", "", 0), ("a", "c", 0), ("c", "", 0), ("a", "b", True), ("a", "b", False),
                        ("a", "b", None), ("a", "b", 0.0), ("a", "b", "0"), ("a", "b"), ("a", "b", 0, 0), ["a", "b", 0],
                        ("atmost", "a", "b", 0), ("a", ("b",), 0), (["a"], "b", 0), "ab0", None, (), 0]:
            self.assert_closes(self.below(("test", literal, SETTLED, SETTLED)), False)

    def test_literals_of_columns_that_are_missing_or_not_asked(self):
        test = ("test", ("a", "b", 0), SETTLED, SETTLED)
        self.assert_closes(test, False)
        self.assert_closes(self.below(test, "a"), False)
        self.assert_closes(self.below(test, "b"), False)
        self.assert_closes(self.below(test, "ba"), True)
        self.assert_closes(("missing", "a", test, SETTLED), False)
        self.assert_closes(("missing", "a", SETTLED, ("missing", "b", test, SETTLED)), False)
        self.assert_closes(("missing", "a", ("missing", "b", SETTLED, test), SETTLED), False)
        alone = ("test", ("", "a", 0), SETTLED, SETTLED)
        self.assert_closes(alone, False)
        self.assert_closes(self.below(alone, "a"), True)
        self.assert_closes(self.below(alone, "b"), False)
        self.assert_closes(self.below(("test", ("", "a", 0), ("missing", "b", SETTLED, SETTLED), SETTLED), "a"), True)

    def test_the_same_literal_twice(self):
        again = ("test", LOW, SETTLED, SETTLED)
        self.assert_closes(self.below(("test", LOW, again, SETTLED)), False)
        self.assert_closes(self.below(("test", LOW, SETTLED, again)), False)
        self.assert_closes(self.below(("test", LOW, SETTLED, ("test", HIGH, SETTLED, again))), False)
        self.assert_closes(self.below(("test", HIGH, again, again)), True)
        self.assert_closes(self.below(("test", LOW, ("test", ("a", "", 1), SETTLED, SETTLED), SETTLED)), True)
        self.assert_closes(self.below(("test", LOW, ("test", ("", "a", 0), SETTLED, SETTLED), SETTLED)), True)


class TestRings(unittest.TestCase):
    def closed(self, tests, ring, columns=AB):
        """Whether the tree with these tests, all of them true or false as told, closes with this ring."""
        tree = ("ring", ring)
        for literal, truth in reversed(tests):
            tree = ("test", literal, tree, SETTLED) if truth else ("test", literal, SETTLED, tree)
        for name in columns.names:
            tree = ("missing", name, SETTLED, tree)
        wants = [(plain(Condition(columns, ("missing", "a"))), ())]
        found = closes(columns, wants, tree)
        self.assertIs(found, tree_closes(columns.names, wants, tree))
        return found

    def test_two_tests(self):
        tests = [(LOW, True), (HIGH, True)]
        self.assertTrue(self.closed(tests, (0, 1)))
        self.assertTrue(self.closed(tests, (1, 0)))
        self.assertTrue(self.closed(tests, (0, 1, 0, 1)))
        for ring in [(), (0,), (1,), (0, 0), (1, 1), (0, 1, 1), (0, 1, 0), (0, 2), (2, 1), (-2, -1), (0, -1), (-2, 1),
                     (True, 0), (0, True), (False, True), [0, 1], (0, 1.0), ("0", "1"), None, 0, "01", b"\0\1", {0: 1},
                     (0, None), ((0, 1),), range(2), (10 ** 99, 0)]:
            self.assertFalse(self.closed(tests, ring), ring)

    def test_the_sum(self):
        for n, m in [(0, -1), (0, 0), (0, 1), (5, -6), (5, -5), (10 ** 99, -10 ** 99 - 1), (10 ** 99, -10 ** 99),
                     (-10 ** 99, 10 ** 99 - 1), (-3, -4)]:
            tests = [(("a", "b", n), True), (("b", "a", m), True)]
            self.assertEqual(self.closed(tests, (0, 1)), n + m < 0)
            self.assertEqual(self.closed(tests, (1, 0)), n + m < 0)
            self.assertEqual(self.closed(tests, (1, 0, 1, 0)), n + m < 0)

    def test_the_step_of_a_test_that_is_false(self):
        # "a is at most 3" is false and "a is at most 4" is true: 0 is at most a - 4, and a at most 4.
        for n, m in product(range(-2, 4), repeat=2):
            tests = [(("a", "", n), False), (("a", "", m), True)]
            if n != m:
                self.assertEqual(self.closed(tests, (0, 1)), m <= n)
                self.assertEqual(self.closed(tests, (1, 0)), m <= n)
            tests = [(("a", "b", n), False), (("b", "a", m), False)]
            self.assertEqual(self.closed(tests, (0, 1)), -n - 1 - m - 1 < 0)
        # Where it is true, the same ring has steps that do not fit.
        self.assertFalse(self.closed([(("a", "", 5), True), (("a", "", 1), True)], (0, 1)))

    def test_a_test_with_itself(self):
        for literal in [("a", "b", -5), ("a", "", -5), ("", "a", -5)]:
            for truth in [True, False]:
                for ring in [(0,), (0, 0), (0, 0, 0)]:
                    self.assertFalse(self.closed([(literal, truth)], ring))

    def test_the_numbers_of_the_tests(self):
        # Columns are no tests, and the tests are numbered from the whole tree on.
        tree = ("missing", "a", SETTLED, ("test", LOW, ("missing", "b", SETTLED, ("test", HIGH, RING, SETTLED)), SETTLED))
        self.assertIs(closes(AB, NOTHING, tree), True)
        tests = [(("b", "", 0), True), (("b", "a", 3), False), (("a", "b", 2), False), (("b", "a", -3), True)]
        for ring in product(range(4), repeat=2):
            self.closed(tests, ring)
        self.assertTrue(self.closed(tests, (2, 3)) is False)
        self.assertTrue(self.closed([(LOW, True), (("b", "", 9), True), (HIGH, True)], (0, 2)))
        self.assertFalse(self.closed([(LOW, True), (("b", "", 9), True), (HIGH, True)], (0, 1)))

    def test_a_number_more_than_once(self):
        # Around a - b once and 0 - a twice: the sum of one round is 1, of the other -1.
        tests = [(("a", "b", 1), True), (("b", "a", 0), True), (("a", "", -1), True), (("", "a", 0), True)]
        self.assertFalse(self.closed(tests, (0, 1)))
        self.assertTrue(self.closed(tests, (2, 3)))
        self.assertFalse(self.closed(tests, (0, 1, 2, 3)))
        self.assertTrue(self.closed(tests, (0, 1, 2, 3, 2, 3)))
        self.assertTrue(self.closed(tests, (2, 3, 0, 1, 2, 3)))
        self.assertFalse(self.closed(tests, (0, 2, 3, 1)))

    def test_long_rings(self):
        columns = Columns("a", "b", "c", "d")
        terms = ["", "a", "b", "c", "d"]
        for many in [3, 4, 5]:
            for total in [-1, 0, 1]:
                for big in [0, 10 ** 99]:
                    numbers = [big, -big] + [0] * (many - 3) + [total]
                    tests = [((terms[k], terms[(k + 1) % many], n), True) for k, n in enumerate(numbers)]
                    ring = tuple(range(many))
                    for turn in range(many):
                        self.assertEqual(self.closed(tests, ring[turn:] + ring[:turn], columns), total < 0)
                    self.assertFalse(self.closed(tests, ring[::-1], columns))
                    self.assertFalse(self.closed(tests, ring[1:], columns))
                    # In another order of the tests the numbers follow the tests.
                    self.assertEqual(self.closed(tests[::-1], ring[::-1], columns), total < 0)

    def test_rings_against_the_words_of_the_document(self):
        chance = random.Random(115)
        met = {True: 0, False: 0}
        for _ in range(1500):
            literals = list(dict.fromkeys(random_literals(chance, "ab", 3, 1)))
            tests = [(literal, chance.random() < 0.5) for literal in literals]
            ring = tuple(chance.choices(range(len(tests)), k=chance.randint(2, 3)))
            met[self.closed(tests, ring)] += 1
        self.assertGreater(min(met.values()), 40)


class TestSettled(unittest.TestCase):
    def test_two_wants_together_do_not_make_an_end_right(self):
        yes = plain(Condition(A, ("atmost", *LOW)))
        no = plain(Condition(A, ("not", ("atmost", *LOW))))
        wants = [(yes, (("selected",),)), (no, (("selected",),))]
        self.assertIs(closes(A, wants, SETTLED), False)
        self.assertIs(closes(A, wants, ("missing", "a", SETTLED, SETTLED)), False)
        self.assertIs(closes(A, wants, ("missing", "a", SETTLED, ("test", LOW, SETTLED, SETTLED))), True)
        both = plain(Condition(A, ("and", (("atmost", *LOW), ("not", ("atmost", *LOW))))))
        self.assertIs(closes(A, [(both, (("selected",),))], SETTLED), True)

    def test_literals_are_settled_freely_of_each_other(self):
        # No row is at most 0 and not at most 1, but as literals they have nothing to do with each other.
        plan = plain(Condition(A, ("and", (("atmost", "a", "", 0), ("not", ("atmost", "a", "", 1))))))
        wants = [(plan, (("selected",),))]
        self.assertIs(closes(A, wants, ("missing", "a", SETTLED, SETTLED)), False)
        low = ("test", ("a", "", 0), SETTLED, SETTLED)
        self.assertIs(closes(A, wants, ("missing", "a", SETTLED, low)), False)
        # A test of an opposite literal is a test of another triple.
        self.assertIs(closes(A, wants, ("missing", "a", SETTLED, ("test", ("", "a", -1), SETTLED, SETTLED))), False)
        tree = ("test", ("a", "", 0), ("test", ("a", "", 1), SETTLED, ("ring", (0, 1))), SETTLED)
        self.assertIs(closes(A, wants, ("missing", "a", SETTLED, tree)), True)

    def test_missing_values(self):
        must = ("must", "x", LOW, ("missing", "b"))
        plan = plain(Condition(AB, must))
        fails = (("fails", (), "x"),)
        self.assertIs(closes(AB, [(plan, fails)], ("missing", "a", SETTLED, SETTLED)), False)
        known = ("missing", "a", SETTLED, ("test", LOW, SETTLED, SETTLED))
        self.assertIs(closes(AB, [(plan, fails)], known), False)
        self.assertIs(closes(AB, [(plan, (("selected",),))], ("missing", "b", SETTLED, SETTLED)), False)
        tree = ("missing", "b", ("missing", "a", SETTLED, ("test", LOW, SETTLED, SETTLED)), SETTLED)
        self.assertIs(closes(AB, [(plan, (("selected",),))], tree), False)
        self.assertIs(closes(AB, [(plan, (("selected",), ("fails", (), "x")))], ("missing", "a", SETTLED, SETTLED)), False)
        hidden = plain(Condition(AB, ("and", (("not", ("missing", "a")), must))))
        # Where a is missing the must is unknown, and where it is present the first part is yes.
        fails = (("fails", (1,), "x"),)
        self.assertIs(closes(AB, [(hidden, fails)], ("missing", "a", SETTLED, ("test", LOW, SETTLED, SETTLED))), False)
        self.assertIs(closes(AB, [(hidden, fails)], ("missing", "a", SETTLED, ("test", LOW, SETTLED, ("ring", (0,))))), False)
        self.assertIs(closes(AB, [(hidden, (*fails, "x"))], ("missing", "a", SETTLED, SETTLED)), False)
        hidden = plain(Condition(AB, ("and", (("missing", "a"), must))))
        self.assertIs(closes(AB, [(hidden, fails)], ("missing", "a", SETTLED, SETTLED)), True)
        self.assertIs(closes(AB, [(hidden, fails)], SETTLED), True)
        hoisted = Plan(hidden.condition, hoisted=((1,),))
        self.assertIs(closes(AB, [(hoisted, fails)], ("missing", "a", SETTLED, SETTLED)), False)

    def test_the_literals_of_other_wants_change_nothing(self):
        one = plain(Condition(A, ("missing", "a")))
        other = plain(Condition(A, ("atmost", *LOW)))
        wants = [(other, (("selected",), ("dropped",))), (one, (("selected",),))]
        self.assertIs(closes(A, wants, ("missing", "a", SETTLED, SETTLED)), False)
        self.assertIs(closes(A, wants[:1] + [(one, ())], ("missing", "a", SETTLED, SETTLED)), True)
        self.assertIs(closes(A, [(one, (("fails", (), "x"),)), wants[0]], SETTLED), True)

    def test_no_wants(self):
        for tree in [SETTLED, ("missing", "a", SETTLED, SETTLED), EXAMPLE, RING]:
            self.assertIs(closes(A, [], tree), False)
        # Even a tree all of whose ends are rings cannot be: some rows are there.
        tests = ("test", LOW, ("test", HIGH, RING, RING), RING)
        self.assertIs(closes(A, [], ("missing", "a", RING, tests)), False)

    def test_wants_with_no_fates_and_fates_that_are_never(self):
        self.assertIs(closes(A, [(NEVER, ())], SETTLED), True)
        self.assertIs(closes(A, [WANTS[0], (NEVER, ())], SETTLED), True)
        for fate in [("fails", (), "x"), ("fails", (0,), "low"), ("selected", 1), (), "selected", None, ["selected"],
                     0, {}, {"selected"}, NEVER, A, 1.5, float("nan"), b"selected", ("fails", (9, 9), "zz"), [], Condition]:
            self.assertIs(closes(A, [(NEVER, (fate,))], SETTLED), True)
            self.assertIs(closes(A, [(NEVER, (fate, ("dropped",)))], SETTLED), False)
            self.assertIs(closes(A, [(NEVER, (("selected",), fate))], EXAMPLE), True)


class TestWants(unittest.TestCase):
    def test_no_list(self):
        for wants in [*OTHER_OBJECTS, tuple(WANTS), WANTS[0], NEVER, {0: WANTS[0]}, "wants", iter(WANTS)]:
            if type(wants) is list:
                continue
            for tree in [EXAMPLE, None]:
                with self.assertRaises(BadWants) as caught:
                    closes(A, wants, tree)
                self.assertEqual(caught.exception.index, -1)

    def test_wrong_wants(self):
        good = WANTS[0]
        other = (plain(Condition(AB, ("missing", "a"))), ())
        fates = (("selected",),)
        for wrong in [*OTHER_OBJECTS, list(good), good[:1], (*good, ()), (fates, NEVER), (None, fates), (NEVER.condition, fates),
                      (Engine(NEVER, 1), fates), (NEVER, list(fates)), (NEVER, None), (NEVER, "selected"), (NEVER, {}),
                      (NEVER, set(fates)), NEVER, (Plan, fates)]:
            for wants, index in [([wrong], 0), ([good, wrong], 1), ([other, wrong, None], 1), ([good, good, wrong, other], 2)]:
                with self.assertRaises(BadWants) as caught:
                    closes(A, wants, EXAMPLE)
                self.assertEqual(caught.exception.index, index)

    def test_unlike_columns(self):
        for columns in [Columns("b"), Columns("b", "a"), AB, Columns("aa")]:
            for wants in [WANTS, [*WANTS, *WANTS]]:
                for tree in [EXAMPLE, None, SETTLED]:
                    with self.assertRaises(Unlike):
                        closes(columns, wants, tree)
        with self.assertRaises(Unlike):
            closes(A, [*WANTS, (ANY, ())], SETTLED)
        with self.assertRaises(Unlike):
            closes(Columns("b", "a"), NOTHING, SETTLED)

    def test_nothing_is_changed(self):
        wants, kept = list(WANTS), list(WANTS)
        closes(A, wants, EXAMPLE)
        self.assertEqual(wants, kept)


if __name__ == "__main__":
    unittest.main()
