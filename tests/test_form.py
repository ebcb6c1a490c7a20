"""The form of the program, and that the interface stands where the document lists it."""

import ast
import inspect
import pathlib
import re
import unittest

from boxshift import boxes, edits, forms, growing, layouts, patches, series, sessions, shapes, texts
from tests.form import METHODS, DUNDERS, methods_called, methods_defined, modules_imported, wrongs_of

FOLDER = pathlib.Path(__file__).parent.parent / "boxshift"
ERRORS = [
    "BoxError", "BadFile", "BadShape", "BadRoom", "BadGaps", "BadShapes", "BadBox", "BadGrowth", "BadEdit",
    "NothingDone", "BadText", "TooLarge",
]
INTERFACE = {
    "errors": ERRORS,
    "boxes": ["read", "shape_of", "free_cells", "first_wrong"],
    "shapes": ["least_room", "count_gaps"],
    "layouts": ["patched", "cost_of", "places", "known_cost"],
    "patches": ["cheapest", "least_cost", "Patch", "room_costs"],
    "forms": ["is_form", "nearest", "distance", "Near"],
    "series": ["series", "series_cost", "one_by_one", "Series"],
    "growing": ["growths", "grown", "tight"],
    "edits": ["edited", "is_edit"],
    "sessions": ["Session"],
    "texts": ["file_text", "read_file"],
}
# The methods that the document's interface lists for a class, and those that it tells in words.
LISTED = {"Patch": ["__init__", "__eq__", "shows"], "Near": ["__init__", "__eq__", "shows"],
          "Series": ["__init__", "__eq__", "shows"],
          "Session": ["__init__", "__len__", "current", "journal", "contents", "spent", "edit", "undo", "branch",
                      "trial", "tried"]}
PARAMETERS = [
    ("cells", [boxes.read, boxes.shape_of, boxes.free_cells, boxes.first_wrong]),
    ("shape", [shapes.least_room, shapes.count_gaps]),
    ("cells shape gaps", [layouts.patched, layouts.cost_of, layouts.places, layouts.known_cost]),
    ("cells shape room", [patches.cheapest, patches.least_cost]),
    ("cells shape", [patches.room_costs]),
    ("cells", [forms.is_form, forms.nearest, forms.distance]),
    ("cells shapes room", [series.series, series.series_cost, series.one_by_one]),
    ("gaps tree", [patches.Patch]),
    ("cells floors", [forms.Near]),
    ("sizes floors", [series.Series]),
    ("self cells shape room", [patches.Patch.shows]),
    ("self cells", [forms.Near.shows]),
    ("self cells shapes room", [series.Series.shows]),
    ("cells number", [growing.growths]),
    ("cells number content", [growing.grown]),
    ("cells", [growing.tight, texts.file_text]),
    ("shape edit", [edits.edited]),
    ("shape value", [edits.is_edit]),
    ("cells spare", [sessions.Session]),
    ("self edit", [sessions.Session.edit]),
    ("self edits", [sessions.Session.tried]),
    ("self", [sessions.Session.contents, sessions.Session.spent, sessions.Session.undo, sessions.Session.branch,
              sessions.Session.trial]),
    ("text", [texts.read_file]),
]
# Each source breaks the rule behind it.
BROKEN = [
    ("x = 1.5\n", "L7"),
    ("def f(a, b):\n    return a / b\n", "L7"),
    ("def f(xs):\n    return (x for x in xs)\n", "L7"),
    ("def f(xs):\n    return sum(x for x in xs)\n", "L7"),
    ("import re\n", "L3"),
    ("from re import sub\n", "L2"),
    ("from .boxes import read\n", "L2"),
    ("from boxshift.boxes import *\n", "L2"),
    ("def f():\n    return 1\n\n\nfrom boxshift.boxes import read\n", "L2"),
    ("x = [1]\nx[0] = 2\n", "L3"),
    ("x = len([1])\n", "L3"),
    ("x = 1\nx = 2\n", "L15"),
    ("def f(list):\n    return list\n", "L15"),
    ("def f(xs):\n    return frozen(xs)\n", "L8"),
    ("def f(x):\n    return type(x)\n", "L8"),
    ("def f(x):\n    print(x)\n", "L8"),
    ("def f(law):\n    return law\n", "L17"),
    ("def f(x):\n    __y = x\n    return x\n", "L12"),
    ("def f():\n    global x\n    return 1\n", "L6"),
    ("async def f():\n    return 1\n", "L6"),
    ("def f(x):\n" + "    x = x + 1\n" * 40, "L10"),
    ("x = 1\n" * 400, "L10"),
    ("# " + "x" * 119 + "\n", "L10"),
    ("# \t\n", "L14"),
    ("# \u00e9\n", "L14"),
    ("def f(x, y):\n    return x is y\n", "L20"),
    ("def f(x):\n    return 'a%s'\n", "L27"),
    ("def f(x, y):\n    return x ** y\n", "L27"),
    ("def f(x):\n    try:\n        return x\n    except TypeError:\n        return 1\n", "L19"),
    ("def f(x):\n    try:\n        return x\n    except:\n        return 1\n", "L19"),
    ("class A:\n    def __hash__(self):\n        return 1\n", "L5"),
    ("class A:\n    def __exit__(self, kind, value, trace):\n        return True\n", "L6"),
    ("class A:\n    def __exit__(self, kind, value, trace):\n        self.rows.pop()\n", "L6"),
    ("class A:\n    def __exit__(self, kind, value, trace):\n        self.error = value\n", "L6"),
    ("class A:\n    def f(self):\n        return 1\n\n    def f(self):\n        return 2\n", "L18"),
    ("def g(f):\n    return f\n\n\n@g\ndef f():\n    return 1\n", "L4"),
]


def package_files():
    return [path for path in sorted(FOLDER.rglob("*")) if "__pycache__" not in path.parts]


def trees():
    return {path.stem: ast.parse(path.read_text(encoding="utf-8")) for path in package_files()}


class RulesTest(unittest.TestCase):
    def test_files(self):
        paths = package_files()
        self.assertLessEqual(len(paths), 100)
        self.assertIn("__init__.py", [path.name for path in paths])
        for path in paths:
            self.assertTrue(path.is_file() and re.fullmatch(r"(__)?[a-z][a-z0-9_]*\.py", path.name), path)

    def test_no_rule_is_broken(self):
        for path in package_files():
            self.assertEqual(wrongs_of(path.read_text(encoding="utf-8")), [], path)

    def test_the_rules_are_found_broken(self):
        for source, rule in BROKEN:
            self.assertIn(rule, [found for found, _ in wrongs_of(source)], source)

    def test_only_known_methods_are_called(self):
        own = {name for tree in trees().values() for name in methods_defined(tree)}
        for name, tree in trees().items():
            for method, row in methods_called(tree):
                self.assertIn(method, METHODS | own | DUNDERS, (name, row))

    def test_no_two_files_import_each_other(self):
        imports = {f"boxshift.{name}": modules_imported(tree) for name, tree in trees().items()}
        while imports:
            free = [name for name in imports if not any(one in imports for one in imports[name])]
            self.assertTrue(free, imports)
            for name in free:
                del imports[name]


class InterfaceTest(unittest.TestCase):
    def test_names_are_defined_in_their_files(self):
        for name, words in INTERFACE.items():
            body = trees()[name].body
            defined = [node.name for node in body if isinstance(node, (ast.FunctionDef, ast.ClassDef))]
            for word in words:
                self.assertIn(word, defined)

    def test_methods_are_defined_in_their_classes(self):
        for tree in trees().values():
            for node in tree.body:
                if isinstance(node, ast.ClassDef):
                    defined = [part.name for part in node.body if isinstance(part, ast.FunctionDef)]
                    self.assertEqual([name for name in LISTED.get(node.name, []) if name not in defined], [])

    def test_parameters(self):
        for words, functions in PARAMETERS:
            for function in functions:
                self.assertEqual(list(inspect.signature(function).parameters), words.split(), function)
