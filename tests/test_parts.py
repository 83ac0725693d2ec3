"""Which part of a condition is wrong first, and why (point 4.3)."""

import unittest

from batchtests.columns import Columns
from batchtests.conditions import Condition
from batchtests.errors import BadPart
from helper import NOT_NAMES, OTHER_OBJECTS

AB = Columns("a", "b")
T = ("atmost", "a", "", 1)
M = ("missing", "b")
LITERAL = ("a", "b", 0)
# Each way to put a part into another one, with its index there.
AROUND = [
    (0, lambda part: ("not", part)),
    (0, lambda part: ("must", "code", LITERAL, part)),
    (0, lambda part: ("and", (part,))),
    (2, lambda part: ("and", (T, M, part, T))),
    (0, lambda part: ("or", (part, T))),
    (3, lambda part: ("or", (T, T, M, part))),
    (0, lambda part: ("case", ((part, T),), M)),
    (1, lambda part: ("case", ((T, part),), M)),
    (2, lambda part: ("case", ((T, M),), part)),
    (4, lambda part: ("case", ((T, M), (T, M), (part, T)), M)),
    (5, lambda part: ("case", ((T, M), (T, M), (M, part)), M)),
    (6, lambda part: ("case", ((T, M), (T, M), (M, T)), part)),
]


class TestFaults(unittest.TestCase):
    def wrong(self, place, why, part, columns=AB):
        with self.assertRaises(BadPart) as caught:
            Condition(columns, part)
        self.assertEqual((caught.exception.place, caught.exception.why), (place, why))
        self.assertIs(type(caught.exception.place), tuple)

    def each(self, why, part):
        """The part is wrong as a whole, and within each of the other forms."""
        self.wrong((), why, part)
        for index, put in AROUND:
            self.wrong((index,), why, put(part))
        for first, put in AROUND[::3]:
            for second, inside in AROUND[1::3]:
                self.wrong((first, second), why, put(inside(part)))

    def test_right_parts(self):
        for part in [T, M, ("must", "code", LITERAL, T), ("not", M)]:
            self.assertEqual(Condition(AB, part).part, part)
            for _, put in AROUND:
                for _, inside in AROUND:
                    whole = put(inside(part))
                    self.assertEqual(Condition(AB, whole).part, whole)

    def test_no_tuple_or_no_word(self):
        for thing in OTHER_OBJECTS:
            self.wrong((), "form", thing)
            self.each("form", thing)
            self.wrong((), "form", (thing, T))
            self.each("form", (thing, "a", "b", 0))
        for thing in [list(T), "missing", ("missing",), "atmost", ("Not", T), ("not ", T), ("else", T), ("fails", "a"),
                      ("xor", (T, T)), ("true",), (b"not", T), (("not",), T), (), [], {"not": T}, (T,), (0, T)]:
            self.each("form", thing)

    def test_numbers_of_items(self):
        for part in [("atmost",), ("atmost", "a"), ("atmost", "a", ""), ("atmost", "a", "", 1, 2), ("atmost", LITERAL),
                     ("missing",), ("missing", "a", "b"), ("missing", "a", None),
                     ("must",), ("must", "code", LITERAL), ("must", "code", LITERAL, T, T), ("must", LITERAL, T),
                     ("not",), ("not", T, T), ("and",), ("and", T, M), ("and", (T,), (T,)), ("or",), ("or", (T,), T),
                     ("case",), ("case", ((T, M),)), ("case", ((T, M),), T, T), ("case", T, M, T, M)]:
            self.each("form", part)

    def test_codes(self):
        for code in [*NOT_NAMES, *OTHER_OBJECTS]:
            self.wrong((), "form", ("must", code, LITERAL, T))
        for code in ["must", "toolonger", "", None, "A", ("code",)]:
            self.each("form", ("must", code, LITERAL, T))
        for code in ["a", "b", "low", "abcdefgh", "yes", "fails"]:
            self.assertEqual(Condition(AB, ("must", code, LITERAL, T)).codes(), [code])

    def test_numbers(self):
        for thing in OTHER_OBJECTS:
            if type(thing) is not int:
                self.wrong((), "form", ("atmost", "a", "b", thing))
                self.wrong((), "form", ("must", "code", ("a", "b", thing), T))
        for thing in [True, False, 1.0, "1", None]:
            self.each("form", ("atmost", "a", "b", thing))
            self.each("form", ("must", "code", ("a", "b", thing), T))
        for n in [10 ** 100 - 1, 1 - 10 ** 100, 0]:
            self.assertEqual(Condition(AB, ("atmost", "a", "b", n)).literals(), [("a", "b", n)])

    def test_literals_of_wrong_form(self):
        for thing in [*OTHER_OBJECTS, ["a", "b", 0], ("a", "b"), ("a", "b", 0, 0), (), "abc", ("a", 0, "b"), T]:
            self.wrong((), "form", ("must", "code", thing, T))
        for thing in [["a", "b", 0], ("a", "b"), ("a", "b", 0, 0)]:
            self.each("form", ("must", "code", thing, T))

    def test_parts_of_wrong_form(self):
        for word in ["and", "or"]:
            for thing in OTHER_OBJECTS:
                if thing not in ((), ("a",), ((),), ([],), ("a", [])):
                    self.wrong((), "form", (word, thing))
            for parts in [(), (T, M, T, M, T), [T, M], T[0], {T: M}, {T}, None, (T,) * 6]:
                self.each("form", (word, parts))
            for parts in [(T,), (T, M), (M, T, M), (T, M, T, M)]:
                self.assertEqual(Condition(AB, (word, parts)).part, (word, parts))
            # These are tuples of an allowed length, so the fault is one place further in.
            self.wrong((0,), "form", (word, T))
            self.wrong((0,), "form", (word, ("a",)))

    def test_branches_of_wrong_form(self):
        pair = (T, M)
        for thing in OTHER_OBJECTS:
            self.wrong((), "form", ("case", thing, T))
            if thing != ("a", []):
                self.wrong((), "form", ("case", (thing,), T))
                self.wrong((), "form", ("case", (pair, thing), T))
        for branches in [(), (pair,) * 4, [pair], (list(pair),), (pair, [T, M]), ((T,),), (pair, (T, M, T)), ((),), pair,
                         (pair, pair, ()), (pair, pair, None), T, ({T: 0, M: 1},), ("tm",), None]:
            self.each("form", ("case", branches, T))
        for many in (1, 2, 3):
            self.assertEqual(len(Condition(AB, ("case", (pair,) * many, T)).places()), 2 * many + 2)

    def test_terms_of_atmost(self):
        for thing in [*OTHER_OBJECTS, *NOT_NAMES, "c", "ab", ("a",)]:
            if type(thing) is not str or thing != "":
                self.wrong((), "name", ("atmost", thing, "b", 1))
                self.wrong((), "name", ("atmost", "b", thing, 1))
                self.wrong((), "name", ("must", "code", (thing, "a", 1), T))
                self.wrong((), "name", ("must", "code", ("a", thing, 1), T))
        for one, other in [("a", "a"), ("b", "b"), ("", ""), ("c", ""), ("", "c"), ("c", "a"), ("a", "c"), ("c", "c")]:
            self.each("name", ("atmost", one, other, 1))
            self.each("name", ("must", "code", (one, other, 1), T))

    def test_terms_of_missing(self):
        for thing in [*OTHER_OBJECTS, *NOT_NAMES, "c"]:
            self.wrong((), "name", ("missing", thing))
        for thing in ["", "c", None, ("a",), ["a"]]:
            self.each("name", ("missing", thing))

    def test_a_code_is_no_column(self):
        part = ("must", "c", ("", "a", 0), M)
        self.assertEqual(Condition(AB, part).part, part)
        self.wrong((), "name", ("must", "a", ("", "code", 0), M))

    def test_the_columns_count(self):
        part = ("and", (("missing", "x"), ("atmost", "y", "", 0)))
        Condition(Columns("y", "x"), part)
        self.wrong((0,), "name", part, Columns("y"))
        self.wrong((1,), "name", part, Columns("x"))

    def test_the_examples(self):
        a = Columns("a")
        self.wrong((), "form", ("atmost", "a", "a", True), a)
        self.wrong((), "name", ("atmost", "a", "a", 1), a)
        self.wrong((0,), "name", ("and", (("missing", "x"), 7)), a)

    def test_the_form_comes_before_the_terms(self):
        self.each("form", ("atmost", "x", "x", None))
        self.each("form", ("atmost", "x", "a"))
        self.each("form", ("missing", "x", "x"))
        self.each("form", ("must", "code", ("x", "x", False), T))
        self.each("form", ("must", "or", ("x", "a", 0), T))
        self.each("form", ("must", "code", ("x", "a", 0)))

    def test_reading_order(self):
        form, name = ("not",), ("missing", "x")
        for index, put in AROUND:
            # The outer part comes first, whatever is inside it.
            for inner, inside in AROUND:
                self.wrong((index, inner), "form", put(inside(form)))
        self.wrong((), "name", ("must", "code", ("x", "a", 0), form))
        self.wrong((), "form", ("must", 1, ("a", "b", 0), name))
        self.wrong((), "form", ("and", (form, name, T, T, T)))
        self.wrong((), "form", ("case", ((form, T), (T,)), T))
        self.wrong((0,), "name", ("and", (name, form)))
        self.wrong((0,), "form", ("and", (form, name)))
        self.wrong((1,), "form", ("or", (T, form, name)))
        self.wrong((0, 0), "name", ("or", (("not", name), form)))
        self.wrong((1, 0), "form", ("or", (T, ("and", (form,)), name)))
        self.wrong((0,), "name", ("case", ((name, form),), form))
        self.wrong((1,), "form", ("case", ((T, form), (name, T)), name))
        self.wrong((2,), "name", ("case", ((T, T), (name, form)), form))
        self.wrong((3, 1), "form", ("case", ((T, T), (T, ("or", (T, form)))), name))
        self.wrong((4,), "form", ("case", ((T, T), (T, T)), form))

    def test_wrong_parts_in_arguments_by_name(self):
        with self.assertRaises(BadPart) as caught:
            Condition(part=("not", 7), columns=AB)
        self.assertEqual((caught.exception.place, caught.exception.why), ((0,), "form"))


if __name__ == "__main__":
    unittest.main()
