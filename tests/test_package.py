"""[1] to [4] and LANGUAGE.md: what the package is made of, as far as its text shows it."""

import ast
import importlib
import inspect
import unittest
from pathlib import Path

FOLDER = Path(__file__).resolve().parent.parent / "carrylog"
INTERFACE = {
    "carrylog.errors": [
        "StoreError", "InvalidInput", "KeyLimit", "ReaderLimit", "UnknownKey", "UnknownReader", "BadChoice",
        "Stalled", "NoPlace", "PowerCut", "BadImage", "BadRule", "NotSafe", "PoweredOff", "NothingToUndo",
        "NothingToRedo",
    ],
    "carrylog.rounds": ["Round"],
    "carrylog.sums": [
        "effective", "ring_goes_on", "least_places", "greatest_limit", "least_budget", "least_free",
        "segment_share", "segments_limit", "least_segments", "least_segment_budget", "compare_houses", "best_size",
    ],
}
METHODS = {
    "Round": [
        "__init__", "__len__", "__eq__", "__add__", "MOST", "constant", "budgets", "at", "total", "least",
        "worst_start", "shifted", "reach",
    ],
}
SIGNATURES = {
    "effective": "(places, limit, *, late=False, tears=0, readers=0)",
    "ring_goes_on": "(places, limit, budgets, *, late=False, tears=0, readers=0)",
    "least_places": "(limit, budgets, *, late=False, tears=0, readers=0)",
    "greatest_limit": "(places, budgets, *, late=False, tears=0)",
    "least_budget": "(places, limit, *, late=False, tears=0, readers=0)",
    "least_free": "(limit, budgets)",
    "segment_share": "(size, budget)",
    "segments_limit": "(segments, size, budget, *, late=False)",
    "least_segments": "(limit, size, budget, *, late=False)",
    "least_segment_budget": "(limit, segments, size, *, late=False)",
    "compare_houses": "(segments, size, budget)",
    "best_size": "(places, budget, least, *, late=False)",
}
OUTSIDE = {
    "heapq": {"heappush", "heappop", "heapify", "heapreplace", "heappushpop"},
    "math": {"gcd", "lcm", "isqrt", "comb", "perm", "factorial"},
    "itertools": {
        "product", "combinations", "permutations", "chain", "accumulate", "pairwise", "islice", "zip_longest",
    },
    "collections": {"defaultdict"},
}
BARRED = (
    ast.Global, ast.AsyncFunctionDef, ast.Await, ast.Div, ast.MatMult, ast.TryStar, ast.MatchMapping,
)


def files():
    return sorted(FOLDER.glob("*.py"))


def trees():
    return [(path, ast.parse(path.read_text(encoding="utf-8"))) for path in files()]


class TestInterface(unittest.TestCase):
    """[3]: everything stands in the module of its heading, and is defined there."""

    def test_names_are_defined_in_their_files(self):
        for module, names in INTERFACE.items():
            tree = ast.parse((FOLDER / f"{module.split('.')[1]}.py").read_text(encoding="utf-8"))
            defined = {part.name for part in tree.body if isinstance(part, (ast.FunctionDef, ast.ClassDef))}
            for name in names:
                self.assertIn(name, defined, module)
                self.assertTrue(hasattr(importlib.import_module(module), name))

    def test_methods_are_defined_in_their_classes(self):
        for module, names in INTERFACE.items():
            for name in names:
                for method in METHODS.get(name, []):
                    self.assertIn(method, vars(getattr(importlib.import_module(module), name)))

    def test_signatures(self):
        sums = importlib.import_module("carrylog.sums")
        for name, signature in SIGNATURES.items():
            self.assertEqual(str(inspect.signature(getattr(sums, name))), signature)


class TestLanguage(unittest.TestCase):
    """The rules of LANGUAGE.md that a short look at the text can check."""

    def test_the_folder_holds_only_python_files(self):
        """L1"""
        for path in FOLDER.iterdir():
            if path.name != "__pycache__":
                self.assertEqual(path.suffix, ".py", path)
                self.assertEqual(path.name, path.name.lower())
        self.assertTrue((FOLDER / "__init__.py").is_file())

    def test_sizes_and_characters(self):
        """L10, L14"""
        for path in files():
            text = path.read_bytes().decode("ascii")
            self.assertEqual([c for c in text if c != "\n" and not " " <= c <= "~"], [], path)
            lines = text.splitlines()
            self.assertLessEqual(len(lines), 399, path)
            self.assertLessEqual(max([len(line) for line in lines]), 120, path)

    def test_functions_are_short(self):
        """L10"""
        for path, tree in trees():
            for part in ast.walk(tree):
                if isinstance(part, ast.FunctionDef):
                    self.assertLessEqual(part.end_lineno - part.lineno + 1, 40, (path, part.name))

    def test_imports(self):
        """[1], L2, L16: nothing from outside, and by full names alone."""
        for path, tree in trees():
            for part in ast.walk(tree):
                self.assertNotIsInstance(part, ast.Import, path)
                if isinstance(part, ast.ImportFrom):
                    self.assertEqual(part.level, 0)
                    names = {name.name for name in part.names}
                    if not part.module.startswith("carrylog."):
                        self.assertLessEqual(names, OUTSIDE[part.module], path)
                    self.assertIn(part, tree.body)

    def test_barred_parts_of_the_language(self):
        """L6, L7"""
        for path, tree in trees():
            for part in ast.walk(tree):
                self.assertNotIsInstance(part, BARRED, path)
                if isinstance(part, ast.Constant):
                    self.assertNotIsInstance(part.value, (float, complex), path)
                    if isinstance(part.value, str):
                        self.assertNotIn("%", part.value)

    def test_decorators_and_module_level(self):
        """L3, L4"""
        kinds = (ast.Expr, ast.ImportFrom, ast.FunctionDef, ast.ClassDef, ast.Assign)
        for path, tree in trees():
            for part in tree.body:
                self.assertIsInstance(part, kinds, path)
            for part in ast.walk(tree):
                if isinstance(part, (ast.FunctionDef, ast.ClassDef)):
                    for over in part.decorator_list:
                        self.assertIn(ast.unparse(over).split(".")[-1],
                                      ["property", "setter", "staticmethod", "classmethod"])


if __name__ == "__main__":
    unittest.main()
