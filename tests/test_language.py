"""The rules of the language that a test can see at once, and the places of the interface."""

import ast
import builtins
import os
import unittest

ROOT = os.path.dirname(os.path.dirname(os.path.abspath(__file__)))
PACKAGE = os.path.join(ROOT, "batchtests")
INTERFACE = {
    "errors.py": {
        "BatchError": (), "BadColumns": ("__init__",), "BadCases": ("__init__",), "BadTable": ("__init__",),
        "BadWants": ("__init__",), "NoRow": ("__init__",), "BadPart": ("__init__",), "BadPlan": ("__init__",),
        "Failed": ("__init__",), "TooMany": ("__init__",), "Unlike": (), "NoPlace": (), "NoTruth": (),
        "NoFate": (), "BadSize": (), "BadLimit": (), "BadLevel": (), "Ended": (), "BadText": (),
    },
    "columns.py": {"Columns": ("__init__", "row", "__len__", "__contains__", "__eq__")},
    "samples.py": {"samples": ()},
    "rowsets.py": {
        "RowSet": ("__init__", "cases", "some", "is_empty", "within", "__contains__", "__eq__", "__and__", "__or__",
                   "__sub__", "__invert__"),
        "all_rows": (), "no_rows": (),
    },
    "conditions.py": {
        "Condition": ("__init__", "places", "literals", "codes", "__getitem__", "__contains__", "__eq__"),
    },
    "truths.py": {"truth": (), "truth_rows": (), "implied": (), "truth_difference": ()},
    "plans.py": {
        "Plan": ("__init__", "way", "with_way", "with_hoisted", "__eq__"), "plain": (), "walk": (), "stops": (),
    },
    "fates.py": {"fate": (), "fates_by_form": (), "fates": (), "fate_rows": ()},
    "engines.py": {"Engine": ("__init__", "run"), "batches": ()},
    "feeds.py": {
        "Feed": ("__init__", "__call__", "add_all", "end", "__len__", "__enter__", "__exit__"),
        "in_block": (), "trial": (),
    },
    "compare.py": {"difference": (), "joint_fates": (), "unlike_row": ()},
    "trees.py": {"closes": ()},
    "papers.py": {"row_for": (), "paper": (), "certificate": (), "certificate_fault": ()},
    "eagerness.py": {"eager_sets": ()},
    "orders.py": {"alike_orders": (), "any_order": ()},
    "repairs.py": {"least_deferred": (), "needless": (), "shorter": ()},
    "texts.py": {"shown": (), "read": ()},
}


def sources():
    found = {}
    for name in sorted(os.listdir(PACKAGE)):
        if name != "__pycache__":
            with open(os.path.join(PACKAGE, name), encoding="utf-8") as file:
                found[name] = file.read()
    return found


class TestLanguage(unittest.TestCase):
    def test_files(self):
        self.assertIn("__init__.py", sources())
        for name in sources():
            self.assertRegex(name, r"\A[a-z0-9_]+\.py\Z")

    def test_characters_and_sizes(self):
        for name, text in sources().items():
            lines = text.split("\n")
            self.assertLessEqual(len(lines), 399, name)
            for line in lines:
                self.assertLessEqual(len(line), 120, (name, line))
                self.assertTrue(all(" " <= letter <= "~" for letter in line), (name, line))

    def test_functions_are_short(self):
        for name, text in sources().items():
            for node in ast.walk(ast.parse(text)):
                if isinstance(node, ast.FunctionDef):
                    self.assertLessEqual(node.end_lineno - node.lineno + 1, 40, (name, node.name))

    def test_imports_name_the_file_that_defines(self):
        for name, text in sources().items():
            for node in ast.walk(ast.parse(text)):
                self.assertNotIsInstance(node, ast.Import, name)
                if isinstance(node, ast.ImportFrom):
                    package, _, module = node.module.partition(".")
                    self.assertEqual((package, node.level), ("batchtests", 0), name)
                    defined = self.defined(ast.parse(sources()[module + ".py"]))
                    for alias in node.names:
                        self.assertIn(alias.name, defined)

    def test_the_interface_is_defined_in_its_files(self):
        for name, entries in INTERFACE.items():
            defined = self.defined(ast.parse(sources()[name]))
            for entry, methods in entries.items():
                self.assertIn(entry, defined)
                for method in methods:
                    self.assertIn(method, self.defined(defined[entry]))

    def test_no_name_has_two_meanings(self):
        for name, text in sources().items():
            tree = ast.parse(text)
            taken = set(dir(builtins))
            for node in tree.body:
                if isinstance(node, ast.ImportFrom):
                    taken.update(alias.name for alias in node.names)
                elif isinstance(node, ast.ClassDef):
                    taken.add(node.name)
            for node in ast.walk(tree):
                if isinstance(node, ast.arg):
                    self.assertNotIn(node.arg, taken, name)
                elif isinstance(node, ast.Name) and isinstance(node.ctx, ast.Store):
                    self.assertNotIn(node.id, taken, name)

    def test_no_two_files_import_each_other(self):
        imports = {}
        for name, text in sources().items():
            nodes = [node for node in ast.parse(text).body if isinstance(node, ast.ImportFrom)]
            imports[name] = {node.module.partition(".")[2] + ".py" for node in nodes}
        while imports:
            free = [name for name in imports if not imports[name] & set(imports)]
            self.assertTrue(free, sorted(imports))
            for name in free:
                del imports[name]

    def test_no_method_has_the_name_of_an_attribute(self):
        methods, attributes = set(), set()
        for text in sources().values():
            for node in ast.walk(ast.parse(text)):
                if isinstance(node, ast.ClassDef):
                    methods.update(self.defined(node))
                elif isinstance(node, ast.Attribute) and isinstance(node.ctx, ast.Store):
                    attributes.add(node.attr)
        self.assertEqual(methods & attributes, set())

    def test_each_import_is_used(self):
        for name, text in sources().items():
            tree = ast.parse(text)
            used = {node.id for node in ast.walk(tree) if isinstance(node, ast.Name)}
            for node in tree.body:
                if isinstance(node, ast.ImportFrom):
                    self.assertLessEqual({alias.name for alias in node.names}, used, name)

    def test_lengths_are_those_of_lists(self):
        # Rule L28: each "return" of "__len__" is len(..) or a literal number, and never len(range(..)).
        lengths = []
        for name, text in sources().items():
            for node in ast.walk(ast.parse(text)):
                if isinstance(node, ast.FunctionDef) and node.name == "__len__":
                    returns = [inside.value for inside in ast.walk(node) if isinstance(inside, ast.Return)]
                    self.assertTrue(returns and isinstance(node.body[-1], ast.Return), name)
                    lengths.extend((name, value) for value in returns)
        self.assertTrue(lengths)
        for name, value in lengths:
            if not (isinstance(value, ast.Constant) and isinstance(value.value, int)):
                self.assertRegex(ast.unparse(value), r"\Alen\((?!range\().*\)\Z", name)

    def defined(self, tree):
        found = {}
        for node in tree.body:
            if isinstance(node, (ast.FunctionDef, ast.ClassDef)):
                found[node.name] = node
            elif isinstance(node, ast.Assign):
                found[node.targets[0].id] = node
        return found


if __name__ == "__main__":
    unittest.main()
