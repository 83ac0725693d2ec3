"""The rules of the language that a test can see at once, and the places of the interface."""

import ast
import os
import unittest

ROOT = os.path.dirname(os.path.dirname(os.path.abspath(__file__)))
PACKAGE = os.path.join(ROOT, "batchtests")
INTERFACE = {
    "errors.py": {
        "BatchError": (), "BadColumns": ("__init__",), "BadCases": ("__init__",), "BadTable": ("__init__",),
        "BadWants": ("__init__",), "NoRow": ("__init__",), "BadPart": ("__init__",), "BadPlan": ("__init__",),
        "Failed": ("__init__",), "TooMany": ("__init__",), "Unlike": (), "NoPlace": (), "NoTruth": (),
        "NoFate": (), "BadSize": (), "BadLimit": (), "BadLevel": (), "Ended": (), "BadText": (),
    },
    "columns.py": {"Columns": ("__init__", "row", "__len__", "__contains__", "__eq__")},
    "samples.py": {"samples": ()},
}


def sources():
    found = {}
    for name in sorted(os.listdir(PACKAGE)):
        if name != "__pycache__":
            with open(os.path.join(PACKAGE, name), encoding="utf-8") as file:
                found[name] = file.read()
    return found


class TestLanguage(unittest.TestCase):
    def test_files(self):
        self.assertIn("__init__.py", sources())
        for name in sources():
            self.assertRegex(name, r"\A[a-z0-9_]+\.py\Z")

    def test_characters_and_sizes(self):
        for name, text in sources().items():
            lines = text.split("\n")
            self.assertLessEqual(len(lines), 399, name)
            for line in lines:
                self.assertLessEqual(len(line), 120, (name, line))
                self.assertTrue(all(" " <= letter <= "~" for letter in line), (name, line))

    def test_functions_are_short(self):
        for name, text in sources().items():
            for node in ast.walk(ast.parse(text)):
                if isinstance(node, ast.FunctionDef):
                    self.assertLessEqual(node.end_lineno - node.lineno + 1, 40, (name, node.name))

    def test_imports_name_the_file_that_defines(self):
        for name, text in sources().items():
            for node in ast.walk(ast.parse(text)):
                self.assertNotIsInstance(node, ast.Import, name)
                if isinstance(node, ast.ImportFrom):
                    package, _, module = node.module.partition(".")
                    self.assertEqual((package, node.level), ("batchtests", 0), name)
                    defined = self.defined(ast.parse(sources()[module + ".py"]))
                    for alias in node.names:
                        self.assertIn(alias.name, defined)

    def test_the_interface_is_defined_in_its_files(self):
        for name, entries in INTERFACE.items():
            defined = self.defined(ast.parse(sources()[name]))
            for entry, methods in entries.items():
                self.assertIn(entry, defined)
                for method in methods:
                    self.assertIn(method, self.defined(defined[entry]))

    def defined(self, tree):
        found = {}
        for node in tree.body:
            if isinstance(node, (ast.FunctionDef, ast.ClassDef)):
                found[node.name] = node
            elif isinstance(node, ast.Assign):
                found[node.targets[0].id] = node
        return found


if __name__ == "__main__":
    unittest.main()
