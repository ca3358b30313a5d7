"""The examples of the document, and where and in what form the interface is defined."""

import ast
import doctest
import importlib
import inspect
import pathlib
import unittest

TOP = pathlib.Path(__file__).resolve().parent.parent
FILES = sorted((TOP / "anypoints").rglob("*.py"))

# For each name of the interface: the parameters of a function or of the constructor of a class.
PARAMETERS = {
    "ratios": {"is_integer": "value", "is_count": "value", "is_number": "value", "is_name": "value",
               "Ratio": "top bottom"},
    "tables": {"Table": "points"},
    "families": {"Family": "paid sayings"},
    "derive": {"is_kept": "family row", "derivation_of": "family row", "is_derivation": "family row value"},
    "seasons": {"is_race": "value", "Season": "riders races"},
    "diaries": {"Diary": "season", "Trial": "diary", "tried": "diary deed"},
    "charts": {"Chart": "rows", "chart_of": "season", "best_of": "season many"},
    "standings": {"points_of": "chart table rider", "totals": "chart table", "standing": "chart table",
                  "steep_standing": "chart", "steepness": "chart"},
    "leads": {"gaps": "chart family one rival", "relation": "chart family one rival",
              "is_sure": "chart family rider left", "most_left": "chart family rider",
              "fewest_voided": "season family one rival", "voiding": "season family one rival"},
    "parting": {"are_alike": "chart other family", "parting": "chart other family",
                "is_parting": "chart other family value", "turning": "chart other family one rival",
                "turned": "chart other family"},
    "mixes": {"is_so": "chart table rider end", "is_mix": "chart rider value", "mixed_points": "chart table mix",
              "bars": "chart family rider end value"},
    "winners": {"can_be": "chart family rider end", "table_for": "chart family rider end",
                "mix_against": "chart family rider end", "all_who": "chart family end",
                "can_still": "chart family rider left end"},
    "orders": {"is_order": "chart value", "does_come": "chart table order", "order_table": "chart family order",
               "weights_against": "chart family order", "are_weights": "chart family order value",
               "all_orders": "chart family"},
    "planes": {"Plane": "chart family"},
    "rounds": {"least_races": "chart", "does_fit": "chart many", "what_bars": "chart many", "season_of": "chart many"},
    "wishes": {"fulfils": "chart wishes", "can_all": "riders wishes", "wished_chart": "riders wishes",
               "wish_bar": "riders wishes", "is_wish_bar": "riders wishes value"},
    "texts": {"season_text": "season", "family_text": "family", "read_season": "text", "read_family": "text"},
    "judge": {"is_claim": "value", "paper": "claim", "is_paper": "claim value"},
    "desk": {"Desk": ""},
}

# For each class: its methods and their parameters behind the object, or None for what is none.
METHODS = {
    "Ratio": {"top": None, "bottom": None, "sign": None, "__add__": "other", "__radd__": "other", "__sub__": "other",
              "__rsub__": "other", "__mul__": "other", "__rmul__": "other", "__neg__": "", "over": "other",
              "is_below": "other", "total": "numbers", "__eq__": "other", "__str__": "", "__repr__": ""},
    "Table": {"of_steps": "steps", "first_places": "k", "steep": "s k", "points": "", "steps": "", "__getitem__": "at",
              "paid": None, "is_like": "other", "reduced": "", "__add__": "other", "__mul__": "other",
              "__rmul__": "other", "__eq__": "other", "__repr__": ""},
    "Family": {"MOST_SAYINGS": None, "shrinking": "paid", "doubling": "paid", "paid": None, "sayings": "",
               "corners": "", "__contains__": "x", "__and__": "other", "parts": "table", "is_within": "other",
               "beyond": "other", "is_same": "other", "__eq__": "other", "__repr__": ""},
    "Season": {"MOST_RIDERS": None, "MOST_RACES": None, "riders": "", "races": "", "__len__": "", "__getitem__": "at",
               "__contains__": "x", "place": "rider position", "places": "rider", "__add__": "other",
               "__mul__": "other", "__rmul__": "other", "with_race": "race", "without_race": "position",
               "struck": "rider", "voided": "rider position", "__eq__": "other", "__repr__": ""},
    "Diary": {"season": None, "set_season": "season", "__getitem__": "at", "__setitem__": "at worth",
              "cut": "position", "put": "race", "__iadd__": "other", "void": "rider position", "__len__": "",
              "copy": "", "each_race": ""},
    "Trial": {"__enter__": "", "__exit__": "kind value trace"},
    "Chart": {"riders": "", "rows": "", "__getitem__": "at", "firsts": "rider", "__contains__": "x", "__len__": "",
              "__add__": "other", "__mul__": "other", "__rmul__": "other", "without": "rider", "teamed": "teams",
              "__eq__": "other", "__repr__": ""},
    "Plane": {"hull": "", "region": "rider", "share": "rider", "__contains__": "x", "table_at": "point",
              "leaders": "point", "__eq__": "other"},
    "Desk": {"do": "commands", "names": "", "diary": "name", "log": ""},
}

CLASS_METHODS = ["total", "of_steps", "first_places", "steep", "shrinking", "doubling"]

EXAMPLES = """
>>> from anypoints.ratios import Ratio
>>> from anypoints.tables import Table
>>> old = Table(3, 2, 1)
>>> [old.paid, str(old[2]), [str(step) for step in old.steps()], old.is_like(Table(6, 4, 2)),
... old + Table.first_places(1)]
[3, '2', ['1', '1', '1', '0', '0'], True, Table(Ratio(4, 1), Ratio(2, 1), Ratio(1, 1))]

>>> from anypoints.families import Family
>>> from anypoints.derive import derivation_of, is_derivation
>>> from anypoints.tables import Table
>>> some = Family(3, (1, -2))
>>> [[[str(one) for one in table.points()] for table in some.corners()], Table(3, 2, 1) in some]
[[['1', '0', '0', '0', '0'], ['2', '1', '0', '0', '0'], ['2', '1', '1', '0', '0']], False]
>>> [is_derivation(some, [1, -1, -1, 0, 0], ([1], [0, 1, 0])), derivation_of(some, [1, -1, -2, 0, 0])]
[True, None]

>>> from anypoints.seasons import Season
>>> year = Season(["a", "b", "c", "d"], [["a", "b"], ["b", "c", "d", "a"], ["a", "b"]])
>>> [year.places("a"), year.struck("b")[1], year.voided("c", 1)[1], year[0]]
[[1, 4, 1], ['c', 'd', 'a'], ['b', None, 'd', 'a'], ['a', 'b']]

>>> from anypoints.charts import Chart, chart_of
>>> from anypoints.standings import standing, steepness
>>> chart = chart_of(year)
>>> [chart["a"], chart.firsts("b"), standing(chart, Table(3, 2, 1)), steepness(chart)]
[[2, 0, 0, 1, 0], [1, 3, 3, 3, 3], [['b'], ['a'], ['c'], ['d']], 2]

>>> from anypoints.leads import gaps, relation
>>> from anypoints.parting import turned
>>> free = Family(5)
>>> [gaps(chart, free, "a", "b"), relation(chart, free, "a", "b"), relation(chart, free, "b", "c")]
[[1, -1, -1, 0, 0], 'open', 'ahead']
>>> turned(chart, Chart({"a": [0, 3], "b": [1, 1], "c": [], "d": []}), free)
[('a', 'b'), ('b', 'a')]

>>> from anypoints.winners import all_who, can_be, mix_against
>>> [all_who(chart, free, "first"), all_who(chart, Family(1), "last alone"), can_be(chart, Family(1), "b", "first")]
[['a', 'b'], [], False]
>>> mix_against(chart, free, "c", "first alone") is None
False

>>> from anypoints.orders import all_orders
>>> from anypoints.planes import Plane
>>> list(all_orders(chart, Family.shrinking(2)))
[['a', 'b', 'c', 'd']]
>>> plane = Plane(chart, Family(3))
>>> [[str(x) + " " + str(y) for x, y in plane.region("a")], str(plane.share("a"))]
[['0 0', '1/2 0', '1/2 1/2'], '1/4']

>>> from anypoints.rounds import least_races, what_bars
>>> [least_races(chart), what_bars(chart, 2) in [("rider", "a"), ("rider", "b"), ("place", 1), ("place", 2)]]
[3, True]
>>> from anypoints.wishes import can_all, is_wish_bar
>>> wishes = [(Table(1), "a"), (Table(2), "b")]
>>> [can_all(["a", "b"], wishes), is_wish_bar(["a", "b"], wishes, [{"b": 2}, {"a": 1}])]
[False, True]

>>> from anypoints.desk import Desk
>>> desk = Desk()
>>> desk.do("season y a b", "race y a b", "race y b - a", "table t 3 2 1", "standing y t", "relation y a b all 5",
... "undo")
['done', 'done', 'done', 'done', 'b a', 'never ahead', 'done']
"""


def parameters(call):
    """The names of the parameters, joined by spaces."""
    return " ".join(inspect.signature(call).parameters)


def run(text, name):
    """Runs the examples of the text: how many failed, and how many there are."""
    found = doctest.DocTestRunner().run(doctest.DocTestParser().get_doctest(text, {}, name, None, 0))
    return found.failed, found.attempted


class InterfaceTest(unittest.TestCase):
    def test_defined_in_its_file(self):
        for file, names in PARAMETERS.items():
            module = importlib.import_module("anypoints." + file)
            for name, told in names.items():
                found = getattr(module, name)
                self.assertEqual(found.__module__, module.__name__)
                self.assertEqual(parameters(found), told, name)
                self.assertEqual(inspect.isclass(found), name in METHODS)

    def test_methods_are_defined_in_the_class(self):
        for file, names in PARAMETERS.items():
            for name in names:
                found = getattr(importlib.import_module("anypoints." + file), name)
                for method, told in METHODS.get(name, {}).items():
                    self.assertIn(method, vars(found), name)
                    if told is not None and method in CLASS_METHODS:
                        self.assertEqual(parameters(getattr(found, method)), told)
                    elif told is not None:
                        self.assertEqual(parameters(vars(found)[method]), ("self " + told).strip())

    def test_examples_of_the_document(self):
        failed, attempted = run(EXAMPLES, "DOC.md")
        self.assertEqual(failed, 0)
        self.assertGreater(attempted, 10)

    def test_examples_of_the_readme(self):
        failed, attempted = run((TOP / "README.md").read_text().replace("```", ""), "README.md")
        self.assertEqual(failed, 0)
        self.assertGreater(attempted, 5)


class FormTest(unittest.TestCase):
    def test_size_and_characters(self):
        for file in FILES:
            lines = file.read_text().split("\n")
            self.assertLessEqual(len(lines), 400, file)
            for line in lines:
                self.assertLessEqual(len(line), 120, file)
                self.assertTrue(all(" " <= letter <= "~" for letter in line), file)
            for node in ast.walk(ast.parse(file.read_text())):
                if isinstance(node, ast.FunctionDef):
                    self.assertLessEqual(node.end_lineno - node.lineno + 1, 40, node.name)

    def test_imports(self):
        for file in FILES:
            for node in ast.walk(ast.parse(file.read_text())):
                self.assertNotIsInstance(node, ast.Import, file)
                if isinstance(node, ast.ImportFrom) and node.module != "math":
                    self.assertTrue(node.module.startswith("anypoints."), file)
                    source = importlib.import_module(node.module)
                    for name in node.names:
                        own = getattr(getattr(source, name.name), "__module__", node.module)
                        self.assertEqual(own, node.module, name.name)


if __name__ == "__main__":
    unittest.main()
