"""Point 35: the names of the interface, where they are defined, and the files."""

import ast
import importlib
import inspect
import pathlib
import unittest

import boxfall

FOLDER = pathlib.Path(boxfall.__file__).parent
FUNCTIONS = {
    "boxfall.sayings": ("yes", "no", "letter", "act"),
    "boxfall.rows": ("plain", "height", "row_of", "as_saying"),
    "boxfall.always": ("breach", "always", "follows", "alike", "reached", "is_paper"),
    "boxfall.companies": ("row_with", "matches"),
    "boxfall.meetings": ("met", "boxes_with", "meeting"),
    "boxfall.strangers": ("ends", "is_safe", "reached_with", "is_shield", "falls", "can_wait"),
    "boxfall.comparing": ("parting", "stands_for", "never_worse", "best_players", "joint_ends", "best_row"),
    "boxfall.mending": ("changes", "mends"),
}
CLASSES = {
    "boxfall.errors": {"BoxError": (), "BadForm": ("__init__",), "BadText": (), "NoActs": (),
                       "NoRow": ("__init__",), "BadName": ("__init__",), "BadRule": (),
                       "NoPlayer": ("__init__",), "BadTruth": ("__init__",)},
    "boxfall.sayings": {"Saying": ("__init__", "form", "text", "letters", "acts", "boxes",
                                   "is_boxed", "read", "__len__", "__eq__", "__invert__",
                                   "__and__", "__or__", "__rshift__", "__pos__")},
    "boxfall.always": {"Breach": ()},
    "boxfall.companies": {"Company": ("__init__", "names", "own", "twin", "drop", "__getitem__",
                                      "__setitem__", "__contains__", "__len__", "__eq__")},
    "boxfall.meetings": {"Meeting": ()},
    "boxfall.comparing": {"Parting": ()},
    "boxfall.led": {"Led": ("__init__", "go", "undo", "trial", "twin")},
}


# The names of the arguments, as the interface tells them; `self` is left out.
ARGUMENTS = {
    "boxfall.sayings": "Saying(form) Saying.read(text) letter(name) act(who,whom) yes() no()",
    "boxfall.rows": "plain(row) height(row) row_of(saying,rows) as_saying(row)",
    "boxfall.always": "breach(saying) always(saying) follows(one,other) alike(one,other) reached(saying) "
                      "is_paper(saying,thing)",
    "boxfall.companies": "Company(rules=None) Company.names() Company.own(name) Company.twin() Company.drop(key) "
                         "row_with(company,one,other) matches(company)",
    "boxfall.meetings": "met(company,name) boxes_with(company,name) meeting(company,name,rows)",
    "boxfall.strangers": "ends(company,name) is_safe(company,name) reached_with(company,name) "
                         "is_shield(company,name,end,thing) falls(company,name) can_wait(company,name)",
    "boxfall.comparing": "parting(company,one,other) stands_for(company,one,other) "
                         "never_worse(company,one,other,worth) best_players(company,worth) "
                         "joint_ends(company,names) best_row(company,names,worth)",
    "boxfall.mending": "changes(rule) mends(company,name)",
    "boxfall.led": "Led(company,name) Led.go(truths) Led.undo() Led.trial(work) Led.twin()",
}


def arguments_of(module, told):
    """The names of the arguments of what is told as in ARGUMENTS."""
    found = module
    for name in told.split("(")[0].split("."):
        found = getattr(found, name)
    told = [str(one) for one in inspect.signature(found).parameters.values()]
    return ",".join(name for name in told if name != "self")


class Interface(unittest.TestCase):
    def test_functions(self):
        for place, names in FUNCTIONS.items():
            module = importlib.import_module(place)
            for name in names:
                self.assertEqual(getattr(module, name).__module__, place)
                self.assertEqual(getattr(module, name).__name__, name)

    def test_classes(self):
        for place, classes in CLASSES.items():
            module = importlib.import_module(place)
            for name, methods in classes.items():
                found = getattr(module, name)
                self.assertIsInstance(found, type)
                self.assertEqual(found.__module__, place)
                for method in methods:
                    self.assertIn(method, vars(found))

    def test_arguments(self):
        for place, several in ARGUMENTS.items():
            module = importlib.import_module(place)
            for told in several.split():
                self.assertEqual(f"{told.split('(')[0]}({arguments_of(module, told)})", told)

    def test_read_is_a_class_method(self):
        saying = importlib.import_module("boxfall.sayings").Saying
        self.assertIsInstance(vars(saying)["read"], classmethod)


class Files(unittest.TestCase):
    def test_sizes_and_signs(self):
        for path in FOLDER.rglob("*.py"):
            text = path.read_text(encoding="utf-8")
            lines = text.split("\n")
            self.assertLessEqual(len(lines), 400, path)
            self.assertLessEqual(max(len(line) for line in lines), 120, path)
            self.assertTrue(all(sign == "\n" or " " <= sign <= "~" for sign in text), path)

    def test_functions_and_imports(self):
        allowed = ("boxfall.", "heapq", "math", "itertools", "__future__")
        for path in FOLDER.rglob("*.py"):
            for node in ast.walk(ast.parse(path.read_text(encoding="utf-8"))):
                if isinstance(node, ast.FunctionDef):
                    self.assertLessEqual(node.end_lineno - node.lineno, 39, (path, node.name))
                if isinstance(node, ast.ImportFrom):
                    self.assertTrue(node.module.startswith(allowed), (path, node.module))

    def test_nothing_else_in_the_folder(self):
        found = [path for path in FOLDER.rglob("*") if "__pycache__" not in path.parts]
        self.assertEqual([path for path in found if path.is_file() and path.suffix != ".py"], [])


if __name__ == "__main__":
    unittest.main()
