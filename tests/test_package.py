"""Point 35: the names of the interface, where they are defined, and the files."""

import ast
import importlib
import pathlib
import unittest

import boxfall

FOLDER = pathlib.Path(boxfall.__file__).parent
FUNCTIONS = {
    "boxfall.sayings": ("yes", "no", "letter", "act"),
    "boxfall.rows": ("plain", "height", "row_of", "as_saying"),
    "boxfall.always": ("breach", "always", "follows", "alike", "reached", "is_paper"),
    "boxfall.companies": ("row_with", "matches"),
    "boxfall.meetings": ("met", "boxes_with", "meeting"),
}
CLASSES = {
    "boxfall.errors": {"BoxError": (), "BadForm": ("__init__",), "BadText": (), "NoActs": (),
                       "NoRow": ("__init__",), "BadName": ("__init__",), "BadRule": (),
                       "NoPlayer": ("__init__",), "BadTruth": ("__init__",)},
    "boxfall.sayings": {"Saying": ("__init__", "form", "text", "letters", "acts", "boxes",
                                   "is_boxed", "read", "__len__", "__eq__", "__invert__",
                                   "__and__", "__or__", "__rshift__", "__pos__")},
    "boxfall.always": {"Breach": ()},
    "boxfall.companies": {"Company": ("__init__", "names", "own", "twin", "drop", "__getitem__",
                                      "__setitem__", "__contains__", "__len__", "__eq__")},
    "boxfall.meetings": {"Meeting": ()},
}


class Interface(unittest.TestCase):
    def test_functions(self):
        for place, names in FUNCTIONS.items():
            module = importlib.import_module(place)
            for name in names:
                self.assertEqual(getattr(module, name).__module__, place)
                self.assertEqual(getattr(module, name).__name__, name)

    def test_classes(self):
        for place, classes in CLASSES.items():
            module = importlib.import_module(place)
            for name, methods in classes.items():
                found = getattr(module, name)
                self.assertIsInstance(found, type)
                self.assertEqual(found.__module__, place)
                for method in methods:
                    self.assertIn(method, vars(found))

    def test_read_is_a_class_method(self):
        saying = importlib.import_module("boxfall.sayings").Saying
        self.assertIsInstance(vars(saying)["read"], classmethod)


class Files(unittest.TestCase):
    def test_sizes_and_signs(self):
        for path in FOLDER.rglob("*.py"):
            text = path.read_text(encoding="utf-8")
            lines = text.split("\n")
            self.assertLessEqual(len(lines), 400, path)
            self.assertLessEqual(max(len(line) for line in lines), 120, path)
            self.assertTrue(all(sign == "\n" or " " <= sign <= "~" for sign in text), path)

    def test_functions_and_imports(self):
        allowed = ("boxfall.", "heapq", "math", "itertools", "__future__")
        for path in FOLDER.rglob("*.py"):
            for node in ast.walk(ast.parse(path.read_text(encoding="utf-8"))):
                if isinstance(node, ast.FunctionDef):
                    self.assertLessEqual(node.end_lineno - node.lineno, 39, (path, node.name))
                if isinstance(node, ast.ImportFrom):
                    self.assertTrue(node.module.startswith(allowed), (path, node.module))

    def test_nothing_else_in_the_folder(self):
        found = [path for path in FOLDER.rglob("*") if "__pycache__" not in path.parts]
        self.assertEqual([path for path in found if path.is_file() and path.suffix != ".py"], [])


if __name__ == "__main__":
    unittest.main()
