import unittest

from batchtests import errors

WITH_ATTRIBUTES = {
    "BadColumns": ("index",), "BadCases": ("index",), "BadTable": ("index",), "BadWants": ("index",),
    "NoRow": ("name",), "BadPart": ("place", "why"), "BadPlan": ("place", "why"),
    "Failed": ("index", "code"), "TooMany": ("limit",),
}
WITHOUT_ATTRIBUTES = (
    "Unlike", "NoPlace", "NoTruth", "NoFate", "BadSize", "BadLimit", "BadLevel", "Ended", "BadText",
)
VALUES = [None, True, -1, 10 ** 100, 1.5, "", "a", b"a", (), (0, 1), [1, [2]], {"a": 1}, {1, 2}, object(), int]


class TestErrors(unittest.TestCase):
    def classes(self):
        return [getattr(errors, name) for name in [*WITH_ATTRIBUTES, *WITHOUT_ATTRIBUTES]]

    def test_base(self):
        self.assertEqual(errors.BatchError.__bases__, (ValueError,))

    def test_each_class_derives_directly_from_the_base(self):
        for one in self.classes():
            with self.subTest(one=one):
                self.assertEqual(one.__bases__, (errors.BatchError,))

    def test_none_is_a_subclass_of_another(self):
        for one in self.classes():
            for other in self.classes():
                self.assertEqual(issubclass(one, other), one is other)

    def test_there_are_no_other_classes(self):
        found = [name for name, value in vars(errors).items() if isinstance(value, type)]
        self.assertEqual(sorted(found), sorted(["BatchError", *WITH_ATTRIBUTES, *WITHOUT_ATTRIBUTES]))

    def test_attributes_by_position(self):
        for name, attributes in WITH_ATTRIBUTES.items():
            for first in VALUES:
                given = (first, "other")[:len(attributes)]
                error = getattr(errors, name)(*given)
                for attribute, value in zip(attributes, given):
                    self.assertIs(getattr(error, attribute), value)

    def test_attributes_by_name(self):
        for name, attributes in WITH_ATTRIBUTES.items():
            for last in VALUES:
                given = dict(zip(reversed(attributes), (last, "other")))
                error = getattr(errors, name)(**given)
                for attribute, value in given.items():
                    self.assertIs(getattr(error, attribute), value)

    def test_attributes_belong_to_the_object(self):
        one = errors.BadPart((0,), "form")
        other = errors.BadPart((), "name")
        self.assertEqual((one.place, one.why, other.place, other.why), ((0,), "form", (), "name"))

    def test_attributes_are_required_arguments(self):
        for name, attributes in WITH_ATTRIBUTES.items():
            for many in (0, len(attributes) - 1, len(attributes) + 1):
                if many != len(attributes):
                    with self.assertRaises(TypeError):
                        getattr(errors, name)(*range(many))

    def test_classes_without_attributes(self):
        for name in ["BatchError", *WITHOUT_ATTRIBUTES]:
            one = getattr(errors, name)
            self.assertEqual(vars(one()), {})
            self.assertEqual(vars(one("words")), {})
            self.assertEqual(str(one("words")), "words")

    def test_raised_and_caught(self):
        for one in self.classes():
            for caught in (one, errors.BatchError, ValueError):
                with self.assertRaises(caught):
                    raise one(*[0, 1][:len(WITH_ATTRIBUTES.get(one.__name__, ()))])


if __name__ == "__main__":
    unittest.main()
