"""Conditions as texts: points 15.1 to 15.3."""

import random
import re
import unittest

from batchtests.columns import Columns
from batchtests.conditions import Condition
from batchtests.errors import BadPart, BadText
from batchtests.texts import read, shown
from helper import OTHER_OBJECTS, random_literals, random_part

AB = Columns("a", "b")
FIRST = ("must", "low", ("", "a", 0), ("atmost", "a", "", 9))
SECOND = ("must", "high", ("b", "", 5), ("atmost", "b", "a", 0))
BOTH = Condition(AB, ("and", (FIRST, SECOND)))
TEXT = "(and (must low 0 <= a + 0: a <= 0 + 9), (must high b <= 0 + 5: b <= a + 0))"
WORD = re.compile("[a-z]{1,8}")
LITERAL = re.compile(r"([a-z]{1,8}|0) <= ([a-z]{1,8}|0) (?:\+ (0|[1-9][0-9]{0,99})|- ([1-9][0-9]{0,99}))(?![0-9])")


class Strict:
    """A reader that takes each character as point 15.1 says."""

    def __init__(self, text):
        self.text, self.at = text, 0

    def whole(self):
        part = self.part()
        assert self.at == len(self.text)
        return part

    def skip(self, word):
        assert self.text.startswith(word, self.at)
        self.at += len(word)

    def starts(self, word):
        return self.text.startswith(word, self.at)

    def match(self, pattern):
        found = pattern.match(self.text, self.at)
        assert found
        self.at = found.end()
        return found

    def literal(self):
        found = self.match(LITERAL)
        a, b, more, less = found.groups()
        return ("" if a == "0" else a, "" if b == "0" else b, int(more) if more is not None else -int(less))

    def part(self):
        if not self.starts("("):
            found = re.compile("([a-z]{1,8}) is missing(?![a-z])").match(self.text, self.at)
            if found:
                self.at = found.end()
                return ("missing", found.group(1))
            return ("atmost", *self.literal())
        self.skip("(")
        word = self.match(WORD).group()
        self.skip(" ")
        if word == "must":
            code = self.match(WORD).group()
            self.skip(" ")
            literal = self.literal()
            self.skip(": ")
            part = ("must", code, literal, self.part())
        elif word == "not":
            part = ("not", self.part())
        elif word in ("and", "or"):
            inside = [self.part()]
            while self.starts(", "):
                self.skip(", ")
                inside.append(self.part())
            part = (word, tuple(inside))
        else:
            assert word == "case"
            branches = []
            while not self.starts("else "):
                test = self.part()
                self.skip(": ")
                branches.append((test, self.part()))
                self.skip(", ")
            self.skip("else ")
            part = ("case", tuple(branches), self.part())
        self.skip(")")
        return part


def strict(columns, text):
    """The condition with this text, or None."""
    try:
        return Condition(columns, Strict(text).whole())
    except (AssertionError, BadPart):
        return None


class TestShown(unittest.TestCase):
    def texts(self, columns, pairs):
        for part, text in pairs:
            condition = Condition(columns, part)
            self.assertEqual(shown(condition), text)
            self.assertEqual(shown(condition=condition), text)
            self.assertEqual(read(columns, text), condition)
            self.assertEqual(read(text=text, columns=columns), condition)

    def test_the_example(self):
        self.texts(AB, [(FIRST, "(must low 0 <= a + 0: a <= 0 + 9)"), (BOTH.part, TEXT)])

    def test_tests(self):
        big = 10 ** 100 - 1
        self.texts(AB, [
            (("atmost", "a", "b", 3), "a <= b + 3"),
            (("atmost", "a", "", -12), "a <= 0 - 12"),
            (("atmost", "", "a", 0), "0 <= a + 0"),
            (("atmost", "a", "", -1), "a <= 0 - 1"),
            (("atmost", "", "b", 1), "0 <= b + 1"),
            (("atmost", "b", "a", 10), "b <= a + 10"),
            (("atmost", "a", "b", big), "a <= b + " + "9" * 100),
            (("atmost", "a", "b", -big), "a <= b - " + "9" * 100),
            (("atmost", "a", "b", 10 ** 99), "a <= b + 1" + "0" * 99),
            (("missing", "a"), "a is missing"),
        ])

    def test_forms(self):
        a, b = ("missing", "a"), ("missing", "b")
        self.texts(AB, [
            (("must", "x", ("a", "b", -7), a), "(must x a <= b - 7: a is missing)"),
            (("must", "abcdefgh", ("", "b", 7), b), "(must abcdefgh 0 <= b + 7: b is missing)"),
            (("not", a), "(not a is missing)"),
            (("not", ("not", a)), "(not (not a is missing))"),
            (("and", (a,)), "(and a is missing)"),
            (("or", (a,)), "(or a is missing)"),
            (("and", (a, b)), "(and a is missing, b is missing)"),
            (("or", (b, a, a, b)), "(or b is missing, a is missing, a is missing, b is missing)"),
            (("or", (("and", (a,)), b)), "(or (and a is missing), b is missing)"),
            (("case", ((a, b),), a), "(case a is missing: b is missing, else a is missing)"),
            (("case", ((a, b), (b, a), (("not", a), ("atmost", "a", "", 0))), ("and", (a, b))),
             "(case a is missing: b is missing, b is missing: a is missing, (not a is missing): a <= 0 + 0, "
             "else (and a is missing, b is missing))"),
        ])

    def test_columns_and_codes_with_one_name(self):
        columns = Columns("low", "abcdefgh")
        self.texts(columns, [
            (("must", "low", ("low", "abcdefgh", 0), ("missing", "low")),
             "(must low low <= abcdefgh + 0: low is missing)"),
        ])

    def test_random_conditions(self):
        chance = random.Random(161)
        for names in ["a", "ab", "abcd"]:
            columns = Columns(*names)
            for _ in range(60):
                literals = random_literals(chance, names, 4, chance.choice([0, 3, 10 ** 99]))
                condition = Condition(columns, random_part(chance, names, literals, 4))
                text = shown(condition)
                self.assertIs(type(text), str)
                self.assertEqual(strict(columns, text), condition)
                self.assertEqual(read(columns, text), condition)
                self.assertEqual(read(columns, text).columns, columns)


class TestRead(unittest.TestCase):
    def bad(self, text, columns=AB, too_much=False):
        """The text is refused; if there is not too much of something, no condition has this text."""
        with self.assertRaises(BadText):
            read(columns, text)
        if type(text) is str and not too_much:
            self.assertIsNone(strict(columns, text))

    def test_objects_that_are_no_texts(self):
        for thing in [*OTHER_OBJECTS, TEXT.encode(), [TEXT], (TEXT,), {TEXT: 1}, list(TEXT), BOTH, BOTH.part, 5, None]:
            if type(thing) is not str:
                self.bad(thing)

    def test_one_character_taken_out_put_in_or_changed(self):
        chance = random.Random(162)
        letters = "ab0123 9<=+-:,()xnot\n\t_AZ\u00e4\uff10\u0660\u2212\u00a0\0"
        taken, refused = 0, 0
        case = ("case", ((("missing", "a"), FIRST), (SECOND, ("or", (("missing", "b"),)))), ("atmost", "a", "b", -10))
        for part in [BOTH.part, case, ("not", ("atmost", "b", "", 12)), ("missing", "a")]:
            text = shown(Condition(AB, part))
            for at in range(len(text) + 1):
                changed = [text[:at] + text[at + 1:]]
                for letter in chance.sample(letters, 12):
                    changed += [text[:at] + letter + text[at:], text[:at] + letter + text[at + 1:]]
                changed += [text[:at], text[at:], text[:at] + text[max(0, at - 1):]]
                for other in changed:
                    expected = strict(AB, other)
                    if expected is None:
                        refused += 1
                        self.bad(other)
                    else:
                        taken += 1
                        self.assertEqual(read(AB, other), expected)
                        self.assertEqual(shown(read(AB, other)), other)
        self.assertGreater(taken, 200)
        self.assertGreater(refused, 3000)

    def test_words_exchanged(self):
        chance = random.Random(163)
        words = ["(", ")", ",", ":", "and", "or", "not", "must", "case", "else", "is", "missing", "a", "b", "x", "0", "1", "<=",
                 "+", "-", " ", "  ", ""]
        case = ("case", ((("missing", "a"), FIRST),), ("or", (("missing", "b"), ("atmost", "a", "b", -10))))
        for _ in range(3000):
            found = re.findall(r"[a-z]+|[0-9]+|<=|.", shown(Condition(AB, chance.choice([BOTH.part, case, FIRST]))))
            for _ in range(chance.choice([1, 1, 2])):
                at = chance.randrange(len(found))
                found[at:at + chance.choice([0, 1, 1, 2])] = [chance.choice(words) for _ in range(chance.choice([0, 1, 1, 2]))]
            text = "".join(found)
            expected = strict(AB, text)
            if expected is None:
                self.bad(text)
            else:
                self.assertEqual(read(AB, text), expected)

    def test_blanks(self):
        for text in [" " + TEXT, TEXT + " ", TEXT.replace(" ", "  ", 1), TEXT.replace(", ", ","), TEXT.replace(", ", " , "),
                     TEXT.replace(": ", ":"), TEXT.replace(": ", " : "), TEXT.replace("(", "( "), TEXT.replace(")", " )"),
                     TEXT.replace(" <= ", "<="), TEXT.replace("<=", "< ="), TEXT.replace(" + ", "+"), TEXT.replace(" ", "\t"),
                     TEXT.replace(" ", "\n"), TEXT + "\n", "\n" + TEXT, TEXT.replace(" ", ""), TEXT.replace(" ", "\u00a0"),
                     "", " ", "a  is missing", "a is  missing", " a is missing", "ais missing", "a ismissing", "a is missing."]:
            self.bad(text)

    def test_numbers(self):
        for number in ["- 0", "+ 00", "+ 01", "- 01", "+ -1", "- -1", "+ +1", "-1", "+1", "+", "", "+ ", "+ a", "+ 1a", "+ 1 0",
                       "+ 1_0", "+ 1.0", "+ 0x1", "+ \u0661", "+ \uff11", "+ 1\u00b2", "\u2212 1", "* 1", "+ 1 + 1",
                       "+ " + "9" * 101, "- " + "9" * 101, "+ " + "0" * 101, "+ 1" + "0" * 100, "+ " + "1" * 5000]:
            self.bad("a <= b " + number)
            self.bad("(must x a <= b " + number + ": a is missing)")
        for number, n in [("+ 0", 0), ("+ 10", 10), ("- 1", -1), ("- " + "9" * 100, 1 - 10 ** 100)]:
            self.assertEqual(read(AB, "a <= b " + number).part, ("atmost", "a", "b", n))

    def test_terms_and_columns(self):
        for text in ["c <= a + 0", "a <= c + 0", "c is missing", "0 is missing", "a <= a + 0", "0 <= 0 + 0", "00 <= a + 0",
                     "1 <= a + 0", "a <= 1 + 0", " <= a + 0", "<= a + 0", "a <=  + 0", "a <= + 0", "A <= b + 0", "aa is missing",
                     "is is missing", "missing is missing", "and <= a + 0", "a < b + 0", "a >= b + 0", "a = b + 0", "a <= b",
                     "a", "0", "5", "a is", "a is missin", "a was missing", "missing a", "(a is missing)", "a is missing is missing",
                     "\u00e4 is missing", "\uff41 is missing", "abcdefghi is missing", "a <= b + 0, a <= b + 0", "a is missing)"]:
            self.bad(text)
        self.bad("b is missing", Columns("a"))
        self.assertEqual(read(Columns("b", "c"), "b <= c + 0").columns, Columns("b", "c"))

    def test_codes(self):
        for code in ["and", "case", "else", "is", "missing", "must", "not", "or", "abcdefghi", "A", "x1", "0", "1", "", "x y", "_",
                     "\u00e4", "x,", "(x)", "x:"]:
            self.bad("(must " + code + " a <= b + 0: a is missing)")
        for text in ["(must x a <= b + 0)", "(must x a <= b + 0: )", "(must x: a is missing)", "(must x a is missing: a is missing)",
                     "(must a <= b + 0: a is missing)", "(must x a <= a + 0: a is missing)", "(must x a <= c + 0: a is missing)",
                     "(must x a <= b + 0, a is missing)", "(must x (a <= b + 0): a is missing)", "must x a <= b + 0: a is missing"]:
            self.bad(text)

    def test_brackets_and_lists(self):
        a = "a is missing"
        for text in ["()", "(", ")", "(not)", "(not )", f"(not {a}", f"not {a}", f"(not {a}))", f"(not {a}, {a})", f"((not {a}))",
                     f"[not {a}]", f"(and {a} {a})", "(and)", "(and )", "(or )", f"(and {a},)", f"(and {a}, )", f"(and , {a})",
                     f"(and {a}, {a}, {a}, {a}, {a})", f"(or {a}, {a}, {a}, {a}, {a})", f"(xor {a})", f"(And {a})", f"(and{a})",
                     f"(and {a}; {a})", f"(not {a}) (not {a})", f"(nand {a}, {a})", f"(and ({a}))", f"({a})"]:
            self.bad(text)

    def test_cases(self):
        a = "a is missing"
        one, last = f"{a}: {a}, ", f"else {a}"
        for text in [f"(case {last})", f"(case {one * 4}{last})", f"(case {a}: {a})", f"(case {one}{a})", f"(case {a}: {a} {last})",
                     f"(case {one}{last}, {last})", f"(case {one}{last}: {a})", f"(case {one}else: {a})", f"(case {one}else)",
                     f"(case {a}, {last})", f"(case {a}: {last})", f"(case : {a}, {last})", f"(case {last}, {one})", "(case )",
                     f"(case {one}{one[:-2]})", f"(case {one}else {a}, )", f"case {one}{last}", f"(else {a})", f"else {a}"]:
            self.bad(text)
        for many in [1, 2, 3]:
            self.assertEqual(len(read(AB, f"(case {one * many}{last})").part[1]), many)

    def test_open_brackets(self):
        for many in [1, 39, 40, 41, 60, 2000, 4900]:
            text = "(not " * many + "a is missing" + ")" * many
            if many > 40:
                self.bad(text, too_much=True)
                self.bad("(" * many)
                self.bad("(" * many + ")" * many)
            else:
                part = ("missing", "a")
                for _ in range(many):
                    part = ("not", part)
                self.assertEqual(read(AB, text).part, part)
        # Not how many brackets there are counts, but how many are open at one point.
        inside = "(not " * 39 + "a is missing" + ")" * 39
        self.assertEqual(shown(read(AB, f"(and {inside}, {inside}, {inside})")), f"(and {inside}, {inside}, {inside})")
        self.bad(f"(and {inside}, (not {inside}))", too_much=True)
        self.bad(")" * 50 + "(" * 50)

    def test_characters(self):
        for many in [9999, 10000, 10001, 20000]:
            text = self.text_of(many)
            self.assertEqual(len(text), many)
            if many <= 10000:
                self.assertEqual(shown(read(AB, text)), text)
            else:
                self.assertIsNotNone(strict(AB, text))
                self.bad(text, too_much=True)
        for letter in ["a", " ", "(", ")", "9", ":"]:
            self.bad(letter * 10000)
            self.bad(letter * 10001)

    def text_of(self, many):
        """A text of a condition with just so many characters."""
        leaves = 4 ** 5 if many > 15000 else 4 ** 4
        wanted = many - len(self.joined(["a <= b + 1"] * leaves))
        texts = []
        for _ in range(leaves):
            more = min(wanted, 99)
            wanted -= more
            texts.append("a <= b + 1" + "0" * more)
        return self.joined(texts)

    def joined(self, texts):
        while len(texts) > 1:
            texts = ["(and " + ", ".join(texts[at:at + 4]) + ")" for at in range(0, len(texts), 4)]
        return texts[0]


if __name__ == "__main__":
    unittest.main()
