import unittest

from batchtests.columns import Columns
from batchtests.errors import BadColumns, NoRow
from helper import NOT_NAMES, OTHER_OBJECTS

BIG = 10 ** 100 - 1


class TestNames(unittest.TestCase):
    def wrong(self, index, *names):
        with self.assertRaises(BadColumns) as caught:
            Columns(*names)
        self.assertEqual(caught.exception.index, index)
        self.assertIs(type(caught.exception.index), int)

    def test_names_are_kept_in_their_order(self):
        for names in [("a",), ("b", "a"), ("x", "y", "z"), ("d", "b", "c", "a")]:
            columns = Columns(*names)
            self.assertEqual(columns.names, names)
            self.assertIs(type(columns.names), tuple)
            self.assertEqual(len(columns), len(names))

    def test_a_list_of_names_is_not_kept(self):
        names = ["a", "b"]
        columns = Columns(*names)
        names[0] = "c"
        self.assertEqual(columns.names, ("a", "b"))

    def test_names_of_one_and_of_eight_letters(self):
        for letter in "abcdefghijklmnopqrstuvwxyz":
            self.assertEqual(Columns(letter).names, (letter,))
        for name in ["abcdefgh", "stuvwxyz", "zzzzzzzz"]:
            self.assertEqual(Columns(name).names, (name,))

    def test_words_inside_names(self):
        for name in ["andy", "ands", "band", "nots", "ore", "iss", "i", "cases", "elsea", "missin", "fails", "yes"]:
            self.assertEqual(Columns(name).names, (name,))

    def test_strings_that_are_no_names(self):
        for wrong in NOT_NAMES:
            with self.subTest(wrong=wrong):
                self.wrong(0, wrong)
                self.wrong(1, "a", wrong)
                self.wrong(3, "a", "b", "c", wrong)

    def test_objects_of_other_kinds(self):
        for wrong in OTHER_OBJECTS:
            with self.subTest(wrong=wrong):
                self.wrong(0, wrong)
                self.wrong(2, "b", "c", wrong)

    def test_too_few_and_too_many(self):
        self.wrong(-1)
        self.wrong(-1, "a", "b", "c", "d", "e")
        self.wrong(-1, "a", "a", "b", "c", "d")
        self.wrong(-1, 1, 2, 3, 4, 5)
        self.wrong(-1, *"abcdefghi")
        self.assertEqual(len(Columns("a", "b", "c", "d")), 4)

    def test_a_name_that_stands_twice(self):
        self.wrong(1, "a", "a")
        self.wrong(2, "a", "b", "a")
        self.wrong(3, "a", "b", "c", "b")
        self.wrong(1, "a", "".join(["", "a"]), "b")

    def test_the_first_wrong_argument_counts(self):
        self.wrong(0, "A", "b", "b")
        self.wrong(1, "b", "b", "A")
        self.wrong(1, "b", None, "b")
        self.wrong(1, "b", "or", None, 3)
        self.wrong(0, [], [])


class TestComparison(unittest.TestCase):
    def test_contains_its_names(self):
        columns = Columns("b", "abcdefgh", "a")
        for name in ["a", "b", "abcdefgh", "".join(["abcd", "efgh"])]:
            self.assertIs(name in columns, True)
        for name in ["c", "", "ab", "abcdefg", "A", "and", *NOT_NAMES]:
            self.assertIs(name in columns, False)

    def test_contains_no_other_object(self):
        columns = Columns("a", "b")
        for thing in OTHER_OBJECTS:
            self.assertIs(thing in columns, False)
        self.assertIs(("a", "b") in columns, False)
        self.assertIs(columns in columns, False)

    def test_contains_no_object_that_says_it_is_equal(self):
        class Same:
            def __eq__(self, other):
                return True

        self.assertIs(Same() in Columns("a", "b"), False)

    def test_equal_columns(self):
        self.assertIs(Columns("a") == Columns("a"), True)
        self.assertIs(Columns("a", "b", "c", "d") == Columns("a", "b", "c", "d"), True)
        self.assertIs(Columns("a") != Columns("a"), False)

    def test_unequal_columns(self):
        columns = Columns("a", "b")
        for names in [("b", "a"), ("a",), ("b",), ("a", "c"), ("a", "b", "c")]:
            self.assertIs(columns == Columns(*names), False)
            self.assertIs(Columns(*names) == columns, False)
            self.assertIs(columns != Columns(*names), True)

    def test_objects_of_other_kinds(self):
        for columns in [Columns("b"), Columns("a", "b")]:
            for thing in [*OTHER_OBJECTS, ("a", "b"), ["a", "b"], "b", ("b",), "a", {"a": 1, "b": 2}]:
                self.assertIs(columns == thing, False)
                self.assertIs(thing == columns, False)
                self.assertIs(columns != thing, True)


class TestRow(unittest.TestCase):
    def wrong(self, name, columns, values):
        with self.assertRaises(NoRow) as caught:
            columns.row(values)
        self.assertEqual(caught.exception.name, name)

    def test_a_row(self):
        columns = Columns("b", "a", "abcdefgh")
        for values in [
            {"b": 1, "a": 2, "abcdefgh": 3},
            {"abcdefgh": 0, "a": None, "b": -7},
            {"a": BIG, "abcdefgh": -BIG, "b": None},
            {"a": None, "abcdefgh": None, "b": None},
        ]:
            row = columns.row(values)
            self.assertIs(type(row), dict)
            self.assertEqual(row, values)
            self.assertEqual(columns.row(values=values), values)

    def test_the_row_is_new_each_time(self):
        columns = Columns("a", "b")
        values = {"a": 1, "b": 2}
        first = columns.row(values)
        second = columns.row(values)
        values["a"] = 5
        first["b"] = 6
        del values["b"]
        self.assertEqual(first, {"a": 1, "b": 6})
        self.assertEqual(second, {"a": 1, "b": 2})
        self.assertEqual(values, {"a": 5})

    def test_the_argument_is_not_changed(self):
        columns = Columns("a", "b")
        for values in [{"b": 1, "a": 2}, {"b": 1}, {"b": 1, "a": 2, "c": 3}, {"a": "x", "b": 1}]:
            before = list(values.items())
            try:
                columns.row(values)
            except NoRow:
                pass
            self.assertEqual(list(values.items()), before)

    def test_no_dict(self):
        columns = Columns("a", "b")
        for thing in OTHER_OBJECTS:
            if not isinstance(thing, dict):
                self.wrong(None, columns, thing)
        for thing in [[("a", 1), ("b", 2)], ("a", "b"), "ab", {"a", "b"}, {"a": 1, "b": 2}.items()]:
            self.wrong(None, columns, thing)

    def test_a_name_that_is_no_key(self):
        columns = Columns("b", "a", "c")
        self.wrong("b", columns, {})
        self.wrong("b", columns, {"a": 1, "c": 1})
        self.wrong("a", columns, {"b": 1})
        self.wrong("a", columns, {"c": 1, "b": 1})
        self.wrong("c", columns, {"a": 1, "b": 1})
        self.wrong("c", columns, {"a": 1, "b": 1, "C": 1})

    def test_values_of_wrong_kinds(self):
        columns = Columns("b", "a")
        for thing in [*OTHER_OBJECTS, "", "1"]:
            if thing is None or type(thing) is int:
                continue
            with self.subTest(thing=thing):
                self.wrong("b", columns, {"a": 1, "b": thing})
                self.wrong("a", columns, {"a": thing, "b": 1})
                self.wrong("b", columns, {"a": thing, "b": thing})

    def test_true_and_false_are_no_integers(self):
        self.wrong("a", Columns("a"), {"a": True})
        self.wrong("a", Columns("a"), {"a": False})

    def test_further_keys(self):
        columns = Columns("a", "b")
        for key in ["c", "", "A", "and", None, 0, True, 1.5, b"a", ("a",), (), Ellipsis, frozenset(), int, NoRow("a")]:
            for value in [1, None, "x", True]:
                self.wrong(None, columns, {"a": 1, "b": 2, key: value})
                self.wrong(None, columns, {key: value, "b": None, "a": None})

    def test_the_error_that_is_described_first(self):
        columns = Columns("b", "a")
        self.wrong("b", columns, {"a": True})
        self.wrong("b", columns, {"a": True, "b": 1.5})
        self.wrong("b", columns, {"a": 1, "c": 2})
        self.wrong("b", columns, {"a": "x", 0: 2})
        self.wrong("a", columns, {"b": 1, "c": 2, None: 3})
        self.wrong("a", columns, {"b": None, "a": "1", "c": 2})
        self.wrong("b", columns, {0: 1, None: 2})
        self.wrong("a", columns, {"b": 0, "a": b"", b"a": 0})

    def test_columns_are_not_changed_by_an_error(self):
        columns = Columns("b", "a")
        self.wrong("b", columns, {"a": 1})
        self.assertEqual(columns.names, ("b", "a"))
        self.assertEqual(columns.row({"a": 1, "b": 2}), {"a": 1, "b": 2})


if __name__ == "__main__":
    unittest.main()
