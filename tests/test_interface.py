"""The examples of the document, and where and in what form the interface is defined."""

import ast
import doctest
import importlib
import inspect
import pathlib
import unittest

from anypoints.families import Family
from anypoints.ratios import Ratio
from anypoints.tables import Table

TOP = pathlib.Path(__file__).resolve().parent.parent
FILES = sorted((TOP / "anypoints").rglob("*.py"))

INTERFACE = {
    "ratios": {
        "is_integer": None, "is_count": None, "is_number": None, "is_name": None,
        "Ratio": ["__init__", "top", "bottom", "sign", "__add__", "__radd__", "__sub__", "__rsub__", "__mul__",
                  "__rmul__", "__neg__", "over", "is_below", "total", "__eq__", "__str__", "__repr__"],
    },
    "tables": {
        "Table": ["__init__", "of_steps", "first_places", "steep", "points", "steps", "__getitem__", "paid", "is_like",
                  "reduced", "__add__", "__mul__", "__rmul__", "__eq__", "__repr__"],
    },
    "families": {
        "Family": ["__init__", "MOST_SAYINGS", "shrinking", "doubling", "paid", "sayings", "corners", "__contains__",
                   "__and__", "parts", "is_within", "beyond", "is_same", "__eq__", "__repr__"],
    },
}

CALLS = [(Ratio.over, ["other"]), (Ratio.is_below, ["other"]), (Table.is_like, ["other"]), (Family.parts, ["table"]),
         (Family.is_within, ["other"]), (Family.beyond, ["other"]), (Family.is_same, ["other"])]


class InterfaceTest(unittest.TestCase):
    def test_defined_in_its_file(self):
        for file, names in INTERFACE.items():
            module = importlib.import_module("anypoints." + file)
            for name, methods in names.items():
                found = getattr(module, name)
                self.assertEqual(found.__module__, module.__name__)
                for method in methods or []:
                    self.assertIn(method, vars(found))

    def test_names_of_parameters(self):
        for call, names in CALLS:
            self.assertEqual(list(inspect.signature(call).parameters)[1:], names)
        for name in ["is_integer", "is_count", "is_number", "is_name"]:
            call = getattr(importlib.import_module("anypoints.ratios"), name)
            self.assertEqual(list(inspect.signature(call).parameters), ["value"])

    def test_example_of_tables(self):
        old = Table(3, 2, 1)
        found = [old.paid, str(old[2]), [str(step) for step in old.steps()], old.is_like(Table(6, 4, 2)),
                 old + Table.first_places(1)]
        self.assertEqual(repr(found), "[3, '2', ['1', '1', '1', '0', '0'], True, "
                                      "Table(Ratio(4, 1), Ratio(2, 1), Ratio(1, 1))]")

    def test_example_of_families(self):
        some = Family(3, (1, -2))
        found = [[[str(one) for one in table.points()] for table in some.corners()], Table(3, 2, 1) in some]
        self.assertEqual(found, [[["1", "0", "0", "0", "0"], ["2", "1", "0", "0", "0"], ["2", "1", "1", "0", "0"]],
                                 False])

    def test_examples_of_the_readme(self):
        text = (TOP / "README.md").read_text().replace("```", "")
        found = doctest.DocTestRunner().run(doctest.DocTestParser().get_doctest(text, {}, "README.md", None, 0))
        self.assertEqual(found.failed, 0)
        self.assertGreater(found.attempted, 5)


class FormTest(unittest.TestCase):
    def test_size_and_characters(self):
        for file in FILES:
            lines = file.read_text().split("\n")
            self.assertLessEqual(len(lines), 400, file)
            for line in lines:
                self.assertLessEqual(len(line), 120, file)
                self.assertTrue(all(" " <= letter <= "~" for letter in line), file)
            for node in ast.walk(ast.parse(file.read_text())):
                if isinstance(node, ast.FunctionDef):
                    self.assertLessEqual(node.end_lineno - node.lineno + 1, 40, node.name)

    def test_imports(self):
        for file in FILES:
            for node in ast.walk(ast.parse(file.read_text())):
                self.assertNotIsInstance(node, ast.Import, file)
                if isinstance(node, ast.ImportFrom) and node.module != "math":
                    self.assertTrue(node.module.startswith("anypoints."), file)
                    source = importlib.import_module(node.module)
                    for name in node.names:
                        own = getattr(getattr(source, name.name), "__module__", node.module)
                        self.assertEqual(own, node.module, name.name)


if __name__ == "__main__":
    unittest.main()
