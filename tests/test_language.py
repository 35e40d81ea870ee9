"""The package keeps to the plain part of Python that it is written in."""

import ast
import builtins
import os
import unittest

PACKAGE = os.path.join(os.path.dirname(os.path.dirname(os.path.abspath(__file__))), "kindnotes")
LIBRARY = {"heapq", "math", "itertools"}
BARRED = (ast.Global, ast.AsyncFunctionDef, ast.Await, ast.Div)
CALLABLE = {
    "__init__", "__eq__", "__repr__", "__str__", "__len__", "__enter__", "__exit__", "__call__", "__iter__", "__le__",
    "__or__", "__and__", "__iadd__", "__contains__", "__getitem__", "__setitem__",
}
INTERFACE = {
    "errors": {
        "NotesError": (), "BadKind": (), "BadRule": (), "BadWay": (), "BadProgram": (), "BadPrices": (), "TooMany": (),
        "KindClash": (), "LetterUnknown": (), "UnknownSign": (), "UnknownName": (), "NoWay": (), "StandsStill": (),
        "MustGuess": (),
    },
    "kinds": {
        "form": (), "fill": (), "Stock": ("fits", "flat"), "Kind": ("__le__", "__or__", "__and__"),
        "kinds_of_size": (),
    },
    "rules": {
        "rule": (), "Table": ("__getitem__", "__setitem__", "__iter__"), "way": (), "way_text": (), "parse_way": (),
        "first_guess": (), "good_ways": (),
    },
    "weights": {"own_need": (), "compare": (), "Comparison": ("keeps",), "least_worse": ()},
    "books": {
        "Book": ("__getitem__", "__setitem__", "__iadd__", "__contains__", "__le__", "__iter__", "need", "lines"),
        "full_book": (), "quiet_signs": (), "least_guess": (), "best_books": (), "cheapest_book": (),
    },
    "checking": {
        "Scope": ("__getitem__", "__setitem__", "__contains__", "bound"), "Told": ("__init__",),
        "Found": ("__init__",), "Noted": ("__init__",), "Checker": ("__init__", "__call__"),
    },
    "notes": {"spots": (), "Notes": ("__init__", "least", "lots", "still")},
}


def files():
    for name in sorted(os.listdir(PACKAGE)):
        if name != "__pycache__":
            with open(os.path.join(PACKAGE, name), encoding="utf-8") as held:
                yield name, held.read()


class Language(unittest.TestCase):
    def test_files_and_lines(self):
        for name, text in files():
            self.assertRegex(name, r"^[a-z_]+\.py$")
            self.assertLessEqual(text.count("\n"), 399, name)
            self.assertTrue(all(mark == "\n" or " " <= mark <= "~" for mark in text), name)
            self.assertTrue(all(len(line) <= 120 for line in text.split("\n")), name)

    def test_functions_and_statements(self):
        for name, text in files():
            for node in ast.walk(ast.parse(text)):
                self.assertNotIsInstance(node, BARRED, name)
                if isinstance(node, ast.FunctionDef):
                    self.assertLessEqual(node.end_lineno - node.lineno + 1, 40, node.name)
                    if node.name.startswith("__"):
                        self.assertIn(node.name, CALLABLE)
                if isinstance(node, ast.Constant):
                    self.assertNotIsInstance(node.value, (float, complex))

    def test_imports(self):
        for name, text in files():
            for node in ast.walk(ast.parse(text)):
                self.assertNotIsInstance(node, ast.Import, name)
                if isinstance(node, ast.ImportFrom):
                    self.assertEqual(node.level, 0)
                    self.assertTrue(node.module in LIBRARY or node.module.startswith("kindnotes."), node.module)

    def test_names_mean_one_thing(self):
        for name, text in files():
            tree = ast.parse(text)
            taken = {alias.name for node in ast.walk(tree) if isinstance(node, ast.ImportFrom) for alias in node.names}
            taken |= {node.name for node in tree.body if isinstance(node, ast.ClassDef)} | set(dir(builtins))
            for node in ast.walk(tree):
                self.assertNotIsInstance(node, ast.AugAssign, name)
                if isinstance(node, ast.arg):
                    self.assertNotIn(node.arg, taken, name)
                if isinstance(node, ast.Name) and isinstance(node.ctx, ast.Store):
                    self.assertNotIn(node.id, taken, name)
                if isinstance(node, ast.FunctionDef) and node in tree.body:
                    self.assertNotIn(node.name, taken, name)

    def test_no_module_leads_back_to_itself(self):
        leads = {}
        for name, text in files():
            nodes = [node for node in ast.walk(ast.parse(text)) if isinstance(node, ast.ImportFrom)]
            leads["kindnotes." + name[:-3]] = [node.module for node in nodes if node.module not in LIBRARY]
        placed = []
        while len(placed) < len(leads):
            ready = [name for name in leads if name not in placed and all(below in placed for below in leads[name])]
            self.assertTrue(ready, leads)
            placed.extend(ready)

    def test_what_is_imported_is_used_and_defined_there(self):
        texts = dict(files())
        for name, text in texts.items():
            tree = ast.parse(text)
            used = {node.id for node in ast.walk(tree) if isinstance(node, ast.Name)}
            for node in ast.walk(tree):
                if isinstance(node, ast.ImportFrom) and node.module not in LIBRARY:
                    body = ast.parse(texts[node.module.split(".")[1] + ".py"]).body
                    defined = {one.name for one in body if isinstance(one, (ast.FunctionDef, ast.ClassDef))}
                    defined |= {target.id for one in body if isinstance(one, ast.Assign) for target in one.targets}
                    for alias in node.names:
                        self.assertIn(alias.name, used, name)
                        self.assertIn(alias.name, defined, name)

    def test_the_interface_is_defined_where_it_is_listed(self):
        for module, names in INTERFACE.items():
            tree = ast.parse(dict(files())[module + ".py"])
            found = {node.name: node for node in tree.body if isinstance(node, (ast.FunctionDef, ast.ClassDef))}
            for name, methods in names.items():
                self.assertIn(name, found)
                own = {node.name for node in getattr(found[name], "body", ()) if isinstance(node, ast.FunctionDef)}
                self.assertLessEqual(set(methods), own, name)


if __name__ == "__main__":
    unittest.main()
