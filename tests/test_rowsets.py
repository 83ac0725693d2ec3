import unittest
from itertools import combinations

from batchtests.columns import Columns
from batchtests.errors import BadCases, NoRow, Unlike
from batchtests.rowsets import RowSet, all_rows, no_rows
from helper import NOT_NAMES, OTHER_OBJECTS, fits, grid

MOST = 10 ** 100 - 1
AB = Columns("a", "b")
GRID = grid("ab", range(-4, 5))


class TestCases(unittest.TestCase):
    def check(self, cases, rows=None):
        rows = GRID if rows is None else rows
        found = RowSet(AB, cases)
        for row in rows:
            self.assertIs(row in found, fits(row, cases))
        again = RowSet(AB, found.cases)
        for row in rows:
            self.assertIs(row in again, fits(row, cases))
        self.assertIs(found.is_empty(), not any(fits(row, cases) for row in rows))
        return found

    def test_no_cases(self):
        self.assertTrue(self.check(()).is_empty())

    def test_missing_columns(self):
        for missing in [(), ("a",), ("b",), ("a", "b"), ("b", "a")]:
            self.check(((missing, ()),))
        self.check((((), ()), (("b", "a"), ())))
        self.check(((("a",), ()), (("b",), ())))

    def test_a_row_with_further_missing_columns_does_not_fit(self):
        rows = RowSet(AB, ((("a",), ()), ((), (("a", "", 0),))))
        self.assertNotIn({"a": None, "b": None}, rows)
        self.assertNotIn({"a": -1, "b": None}, rows)
        self.assertIn({"a": None, "b": 3}, rows)
        self.assertIn({"a": -1, "b": 3}, rows)

    def test_literals(self):
        ends = [("a", ""), ("", "a"), ("b", ""), ("", "b"), ("a", "b"), ("b", "a")]
        pool = [(a, b, n) for a, b in ends for n in (-2, 0, 1)]
        for literals in combinations(pool, 2):
            self.check((((), literals),))
        for literal in pool:
            self.check((((), (literal,)), (("b",), (("a", "", 1),))))
            self.check((((), (literal, literal)),))
        self.check((((), tuple(pool[:4])),))

    def test_literals_of_a_column_beside_a_missing_one(self):
        for n in (-3, 0, 2):
            self.check(((("a",), (("b", "", n),)), (("b",), (("", "a", n),))))

    def test_literals_that_exclude_one_another(self):
        self.assertTrue(self.check((((), (("a", "", 0), ("", "a", -1))),)).is_empty())
        self.assertFalse(self.check((((), (("a", "", 0), ("", "a", 0))),)).is_empty())
        self.assertTrue(self.check(((("b",), (("a", "", -1), ("", "a", 0))),)).is_empty())
        chain = (("a", "b", -1), ("b", "", 0), ("", "a", 0))
        self.assertTrue(self.check((((), chain),)).is_empty())
        found = self.check((((), chain), ((), (("a", "b", -1),))))
        self.assertFalse(found.is_empty())

    def test_cases_that_overlap(self):
        self.check((((), (("a", "", 2),)), ((), (("a", "", 1),)), ((), (("b", "", 1),))))
        self.check((((), ()), ((), (("a", "", 1),)), ((), ())))
        self.check((((), (("a", "b", 0),)), ((), (("b", "a", 0),)), ((), (("a", "", 0), ("", "b", 0)))))

    def test_great_numbers(self):
        rows = [{"a": k * MOST + n, "b": m} for k in (-2, -1, 0, 1, 2) for n in (-1, 0, 1) for m in (0, MOST, -MOST)]
        self.check((((), (("a", "", MOST), ("", "a", -MOST))),), rows)
        self.check((((), (("a", "b", -MOST),)), ((), (("b", "a", -MOST), ("b", "", MOST)))), rows)

    def test_numbers_of_cases_at_the_limit(self):
        cases = tuple(((), (("a", "", 2 * k), ("", "a", 1 - 2 * k), ("b", "", k), ("", "b", k))) for k in range(-3, 3))
        self.check(cases)

    def test_the_columns_and_the_arguments_by_name(self):
        rows = RowSet(cases=(((), ()),), columns=AB)
        self.assertEqual(rows.columns, AB)
        self.assertIs(type(rows.cases), tuple)
        self.assertIn({"a": 1, "b": 2}, rows)

    def test_other_orders_and_numbers_of_columns(self):
        cases = ((("b", "d"), (("a", "c", 0),)), (("d", "b"), (("c", "a", -1),)), ((), ()))
        for names in ["abcd", "dcba", "bdac"]:
            rows = RowSet(Columns(*names), cases)
            for row in grid("abcd", (-1, 0, 1)):
                self.assertIs(row in rows, fits(row, cases))
        rows = RowSet(Columns("abcdefgh"), (((), (("abcdefgh", "", 3),)),))
        self.assertIn({"abcdefgh": 3}, rows)
        self.assertNotIn({"abcdefgh": 4}, rows)


class TestWrongCases(unittest.TestCase):
    def wrong(self, index, cases):
        with self.assertRaises(BadCases) as caught:
            RowSet(AB, cases)
        self.assertEqual(caught.exception.index, index)
        self.assertIs(type(caught.exception.index), int)

    def each(self, case):
        right = ((), (("a", "b", 0),))
        self.wrong(0, (case,))
        self.wrong(1, (right, case))
        self.wrong(2, (right, ((), ()), case, right, case))

    def test_no_tuple(self):
        for thing in OTHER_OBJECTS:
            if not isinstance(thing, tuple):
                self.wrong(-1, thing)
        self.wrong(-1, [((), ())])
        self.wrong(-1, None)
        self.wrong(-1, "")
        self.wrong(-1, [7])

    def test_what_is_no_case(self):
        for thing in [*OTHER_OBJECTS, [(), ()], ((),), ((), (), ()), (), "ab", {"a": (), "b": ()}]:
            self.each(thing)

    def test_missing(self):
        for thing in OTHER_OBJECTS:
            if thing not in ((), ("a",)):
                self.each((thing, ()))
        for missing in [["a"], ("a", "a"), ("a", "b", "a"), ("c",), ("a", "c"), ("",), ("a", ""), "a", "ab", ({},),
                        ("a", None), (["a"],), (True,), ("A",), ({"a"},), {"a": 1}, (("a",),), (b"a",)]:
            self.each((missing, ()))

    def test_no_tuple_of_literals(self):
        for thing in OTHER_OBJECTS:
            if thing != ():
                self.each(((), thing))
        self.each(((), [("a", "b", 0)]))
        self.each(((), ("a", "b", 0)))
        self.each(((), {("a", "b", 0)}))

    def test_literals(self):
        for thing in [*OTHER_OBJECTS, ["a", "b", 0], ("a", "b"), ("a", "b", 0, 0), ("a",), (0, "a", "b"), "ab0"]:
            self.each(((), (thing,)))
            self.each(((), (("a", "", 5), thing, ("b", "", 5))))

    def test_terms(self):
        for term in [*OTHER_OBJECTS, *NOT_NAMES, "c", "ab"]:
            if type(term) is not str or term != "":
                self.each(((), ((term, "b", 0),)))
                self.each(((), (("b", term, 0),)))
        for term in ["", "a", "b", "c"]:
            self.each(((), ((term, term, 0),)))

    def test_numbers(self):
        for thing in [*OTHER_OBJECTS, "0", 0.0]:
            if type(thing) is not int:
                self.each(((), (("a", "b", thing),)))
        self.each(((), (("a", "b", True),)))

    def test_a_literal_of_a_missing_column(self):
        for missing, literal in [(("a",), ("a", "b", 0)), (("a",), ("b", "a", 0)), (("b",), ("", "b", 0)),
                                 (("b", "a"), ("a", "", 0)), (("a", "b"), ("", "b", 0))]:
            self.each((missing, (literal,)))
        self.each((("b",), (("a", "", 0), ("a", "b", 0))))

    def test_the_first_wrong_case_counts(self):
        self.wrong(0, (7, [], None))
        self.wrong(1, (((), ()), ((), (("a", "a", 0),)), 7))
        self.wrong(1, (((), ()), 7, ((), (("a", "a", 0),))))
        self.wrong(3, ((("a",), ()), ((), ()), ((), (("a", "", 0), ("", "a", -1))), (("a",), (("a", "", 0),))))


class TestRows(unittest.TestCase):
    def test_objects_that_are_no_rows(self):
        for rows in [all_rows(AB), no_rows(AB), RowSet(AB, (((), ()),))]:
            for thing in OTHER_OBJECTS:
                self.assertIs(thing in rows, False)
            for thing in [{"a": True, "b": 1}, {"a": 1, "b": False}, {"a": 1}, {"b": 1}, {"a": 1, "b": 1, "c": 1},
                          {"a": 1, "b": 1.0}, {"a": 1, "b": "1"}, {"a": 1, "b": []}, {"a": 1, "b": 1, None: 1},
                          [("a", 1), ("b", 1)], ("a", "b"), "a", {"a", "b"}, (1, 1)]:
                self.assertIs(thing in rows, False)

    def test_a_row_in_any_order_of_keys_stays_as_it_is(self):
        row = {"b": 1, "a": 2}
        self.assertIn(row, all_rows(AB))
        self.assertIn(row, RowSet(AB, (((), (("b", "a", -1),)),)))
        self.assertIs(row in RowSet(AB, ((("a",), ()),)), False)
        self.assertEqual(list(row.items()), [("b", 1), ("a", 2)])

    def test_a_row_with_missing_columns_in_any_order_of_keys(self):
        rows = RowSet(AB, ((("b", "a"), ()),))
        self.assertIn({"a": None, "b": None}, rows)
        self.assertIn({"b": None, "a": None}, rows)

    def test_some(self):
        for cases in [(((), (("a", "", -7), ("", "b", -9), ("b", "a", 17))),), ((("a", "b"), ()),),
                      ((("b",), (("", "a", -3),)),), (((), (("a", "", 0), ("", "a", -1))), (("a",), ()))]:
            rows = RowSet(AB, cases)
            row = rows.some()
            self.assertTrue(fits(row, cases))
            self.assertIn(row, rows)
            self.assertEqual(AB.row(row), row)
            self.assertIs(rows.is_empty(), False)
            row.clear()
            self.assertTrue(fits(rows.some(), cases))
        for cases in [(), (((), (("a", "", 0), ("", "a", -1))),)]:
            self.assertIsNone(RowSet(AB, cases).some())
            self.assertIs(RowSet(AB, cases).is_empty(), True)

    def test_all_rows_and_no_rows(self):
        for names in ["a", "ba", "abc", "dabc"]:
            columns = Columns(*names)
            full = all_rows(columns)
            none = no_rows(columns=columns)
            for row in grid(names, (-MOST, 0, MOST)):
                self.assertIs(row in full, True)
                self.assertIs(row in none, False)
            self.assertEqual((full.columns, none.columns), (columns, columns))
            self.assertEqual((full.is_empty(), none.is_empty()), (False, True))
            self.assertEqual((~none == full, ~full == none, full == none), (True, True, False))
            self.assertIn(full.some(), full)
            self.assertIsNone(none.some())
            self.assertEqual(RowSet(columns, full.cases), full)
            self.assertEqual(RowSet(columns, none.cases), none)
            self.assertTrue(isinstance(full, RowSet) and isinstance(none, RowSet))


class TestUnlike(unittest.TestCase):
    def test_unlike_columns(self):
        names = [("a", "b"), ("b", "a"), ("a",), ("a", "c"), ("a", "b", "c")]
        for one, other in combinations(names, 2):
            for make in [all_rows, no_rows]:
                a, b = make(Columns(*one)), make(Columns(*other))
                for act in [lambda: a & b, lambda: a | b, lambda: a - b, lambda: a.within(b), lambda: b.within(a),
                            lambda: b & a, lambda: b | a, lambda: b - a, lambda: a.within(other=b)]:
                    with self.assertRaises(Unlike):
                        act()
                self.assertIs(a == b, False)
                self.assertIs(a != b, True)

    def test_equal_columns_that_are_other_objects(self):
        a, b = all_rows(Columns("a", "b")), RowSet(Columns("a", "b"), (((), ()),))
        self.assertEqual((a & b) | (a - b), a)
        self.assertIs(b.within(a), True)
        self.assertIs(a == all_rows(Columns("a", "b")), True)

    def test_objects_of_other_kinds(self):
        for rows in [all_rows(AB), no_rows(AB), no_rows(Columns("b"))]:
            for thing in [*OTHER_OBJECTS, AB, rows.cases, list(rows.cases)]:
                self.assertIs(rows == thing, False)
                self.assertIs(thing == rows, False)
                self.assertIs(rows != thing, True)

    def test_columns_by_identity_stay(self):
        rows = RowSet(AB, ((("a",), ()),))
        for made in [rows & rows, rows | rows, rows - rows, ~rows]:
            self.assertEqual(made.columns, AB)

    def test_a_wrong_row_is_no_error(self):
        try:
            found = {"a": 1} in all_rows(AB)
        except NoRow:
            found = None
        self.assertIs(found, False)


if __name__ == "__main__":
    unittest.main()
