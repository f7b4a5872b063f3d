"""[1] to [4] and LANGUAGE.md: what the package is made of, as far as its text shows it."""

import ast
import builtins
import importlib
import inspect
import re
import unittest
from pathlib import Path

FOLDER = Path(__file__).resolve().parent.parent / "carrylog"
STANDING = "(word, places, limit, budgets, phase=0, *, late=False)"
# Each function with its arguments, each class with those of its constructor, None where any will do.
INTERFACE = {
    "carrylog.errors": {
        name: None for name in [
            "StoreError", "InvalidInput", "KeyLimit", "ReaderLimit", "UnknownKey", "UnknownReader", "BadChoice",
            "Stalled", "NoPlace", "PowerCut", "BadImage", "BadRule", "NotSafe", "PoweredOff", "NothingToUndo",
            "NothingToRedo",
        ]
    },
    "carrylog.rounds": {"Round": "(*budgets)"},
    "carrylog.sums": {
        "effective": "(places, limit, *, late=False, tears=0, readers=0)",
        "ring_goes_on": "(places, limit, budgets, *, late=False, tears=0, readers=0)",
        "least_places": "(limit, budgets, *, late=False, tears=0, readers=0)",
        "greatest_limit": "(places, budgets, *, late=False, tears=0)",
        "least_budget": "(places, limit, *, late=False, tears=0, readers=0)",
        "least_free": "(limit, budgets)",
        "segment_share": "(size, budget)",
        "segments_limit": "(segments, size, budget, *, late=False)",
        "least_segments": "(limit, size, budget, *, late=False)",
        "least_segment_budget": "(limit, segments, size, *, late=False)",
        "compare_houses": "(segments, size, budget)",
        "best_size": "(places, budget, least, *, late=False)",
    },
    "carrylog.words": {
        "normal": "(text)",
        "living": "(word)",
        "depths": "(word)",
        "word_of": "(depths)",
        "release": "(word, index)",
        "carry": "(word, places)",
        "carries": "(word, count, places)",
        "append_record": "(word, places, record='1')",
        "step": "(word, index, count, places, *, late=False)",
        "dominates": "(first, second)",
        "newest": "(word)",
        "best_word": "(count)",
        "worst_word": "(count, length)",
    },
    "carrylog.ring": {"Ring": "(places, limit, budgets, *, late=False, readers=0)"},
    "carrylog.life": {
        "blocked_at": STANDING,
        "short_at": STANDING,
        "life": STANDING,
        "safe": STANDING,
        "newest_step": STANDING,
        "newest_play": "(word, places, limit, budgets, phase=0, *, late=False, most=64)",
    },
    "carrylog.papers": {
        "steady_word": "(limit, budgets, phase)",
        "forever_paper": STANDING,
        "forever_holds": "(paper, " + STANDING[1:],
        "stall_paper": STANDING,
        "stall_holds": "(paper, " + STANDING[1:],
    },
    "carrylog.counts": {
        "count_words": "(places, count)",
        "count_safe": "(places, limit, budgets, phase, count, *, late=False)",
        "safe_words": "(places, limit, budgets, phase, count, *, late=False)",
        "word_at": "(rank, places, count)",
        "rank_of": "(word)",
    },
    "carrylog.segments": {"Segments": "(segments, size, limit, budget, *, late=False)"},
    "carrylog.duel": {
        "can_empty": "(written, fewest, budget, size)",
        "SegmentKeeper": "()",
        "Fewest": "()",
        "Oldest": "()",
        "Scripted": "(numbers)",
        "Opponent": "(limit)",
        "stall_bound": "(segments, size, limit, count)",
        "run_duel": "(store, keeper, opponent, most)",
    },
    "carrylog.games": {
        "Game": "()",
        "RingGame": "(places, limit, budgets, *, late=False)",
        "SegmentGame": "(segments, size, limit, budget, *, late=False)",
    },
    "carrylog.lots": {
        "closed_lot": "(game)",
        "lot_holds": "(game, lot)",
        "stall_table": "(game)",
        "table_holds": "(game, table)",
    },
    "carrylog.disk": {"Disk": "(places, limit, budgets)"},
    "carrylog.keepers": {
        "Keeper": "()",
        "Greedy": "()",
        "Lazy": "(mark)",
        "Thrifty": "(limit)",
        "RuleKeeper": "(text)",
    },
    "carrylog.trial": {
        "run_row": "(keeper, row, places, limit, budgets)",
        "worst_row": "(keeper, places, limit, budgets)",
        "standings": "(keeper, places, limit, budgets)",
    },
    "carrylog.journal": {"Observer": "(places, limit, budgets)"},
    "carrylog.desk": {"Desk": "(places, limit, budgets)"},
}
KEEPER = {"choose": "(self, word, places, budgets, phase)", "label": "(self)"}
GAME = {"states": "(self)", "opening": "(self)", "moves": "(self, state)", "replies": "(self, state, move)"}
# Each method with its arguments; None for a property or a class value.
METHODS = {
    "Round": {
        "__init__": "(self, *budgets)", "__len__": "(self)", "__eq__": "(self, other)", "__add__": "(self, other)",
        "MOST": None, "constant": "(budget)", "budgets": None, "at": "(self, t)", "total": "(self, start, count)",
        "least": "(self, count)", "worst_start": "(self, count)", "shifted": "(self, phase)",
        "reach": "(self, need)",
    },
    "Ring": {
        "places": None, "limit": None, "budgets": None, "late": None, "readers": None, "word": None, "free": None,
        "done": None, "phase": None, "carried": None, "last_wait": None, "__len__": "(self)",
        "__contains__": "(self, x)", "read": "(self, key)", "table": "(self)", "log": "(self)", "scan": "(self)",
        "age": "(self, key)", "put": "(self, key, value, count=None)", "delete": "(self, key, count=None)",
        "open_reader": "(self)", "read_as": "(self, reader, key)", "close_reader": "(self, reader)",
        "open_readers": "(self)", "twin": "(self)",
        "changed": "(self, *, places=None, limit=None, budgets=None)",
    },
    "Segments": {
        "segments": None, "size": None, "limit": None, "budget": None, "late": None, "head": None, "room": None,
        "done": None, "carried": None, "last_wait": None, "__len__": "(self)", "__contains__": "(self, x)",
        "read": "(self, key)", "table": "(self)", "written": "(self, segment)", "living": "(self, segment)",
        "freed": "(self, segment)", "closed": "(self)", "closed_by_age": "(self)", "picture": "(self)",
        "summary": "(self)", "put": "(self, key, value, *choices)", "delete": "(self, key)", "twin": "(self)",
    },
    "SegmentKeeper": {"choices": "(self, store, key)"},
    "Fewest": {"choices": "(self, store, key)"},
    "Oldest": {"choices": "(self, store, key)"},
    "Scripted": {"choices": "(self, store, key)", "used": None},
    "Opponent": {
        "next_key": "(self, store)", "released": "(self, store, segment)", "debt": "(self, store)", "second": None,
    },
    "Game": {"successors": "(self, state)", "lives": "(self)", "count_states": "(self)"},
    "RingGame": GAME,
    "SegmentGame": GAME,
    "Disk": {
        "recover": "(cls, image, limit, budgets)", "places": None, "limit": None, "budgets": None, "word": None,
        "free": None, "done": None, "phase": None, "torn": None, "number": None, "off": None, "pending": None,
        "__len__": "(self)", "__contains__": "(self, x)", "read": "(self, key)", "table": "(self)", "image": "(self)",
        "put": "(self, key, value, count=None, *, cut=None, outcome='none')",
        "delete": "(self, key, count=None, *, cut=None, outcome='none')",
        "resume": "(self, count=None, *, cut=None, outcome='none')",
    },
    "Keeper": KEEPER,
    "Greedy": KEEPER,
    "Lazy": {**KEEPER, "mark": None, "set_mark": "(self, mark)"},
    "Thrifty": KEEPER,
    "RuleKeeper": KEEPER,
    "Observer": {
        "readings": "(self, journal)", "count_readings": "(self, journal)", "fits": "(self, journal)",
        "first_fault": "(self, journal)", "sure_waits": "(self, journal)", "sure_words": "(self, journal)",
        "outlook": "(self, journal, key)", "mends": "(self, journal)", "record": "(self, rows)",
    },
    "Desk": {
        "rebuilt": "(places, limit, budgets, history)", "places": None, "limit": None, "budgets": None, "word": None,
        "free": None, "phase": None, "done": None, "carried": None, "spare": None, "steps": None,
        "__len__": "(self)", "__contains__": "(self, x)", "read": "(self, key)", "table": "(self)",
        "put": "(self, key, value)", "delete": "(self, key)",
        "change": "(self, *, places=None, limit=None, budgets=None)", "undo": "(self)", "redo": "(self)",
        "history": "(self)", "attempt": "(self, *deeds)", "twin": "(self)",
    },
}
OUTSIDE = {
    "heapq": {"heappush", "heappop", "heapify", "heapreplace", "heappushpop"},
    "math": {"gcd", "lcm", "isqrt", "comb", "perm", "factorial"},
    "itertools": {
        "product", "combinations", "permutations", "chain", "accumulate", "pairwise", "islice", "zip_longest",
    },
    "collections": {"defaultdict"},
}
BUILTINS = {
    "len", "range", "enumerate", "zip", "min", "max", "sum", "abs", "sorted", "reversed", "int", "str", "bool",
    "list", "tuple", "dict", "set", "isinstance", "ord", "repr", "any", "all", "divmod", "super", "property",
    "staticmethod", "classmethod", "ValueError", "NotImplemented", "map",
}
# The methods of strings, numbers, lists and dicts that may be called.
BUILTIN_METHODS = {
    "append", "clear", "copy", "count", "endswith", "extend", "find", "get", "index", "insert", "isalnum", "isalpha",
    "isdigit", "islower", "isspace", "isupper", "items", "join", "keys", "ljust", "lower", "lstrip", "partition",
    "pop", "remove", "replace", "reverse", "rfind", "rjust", "rpartition", "rsplit", "rstrip", "setdefault", "split",
    "splitlines", "startswith", "strip", "update", "upper", "values", "zfill", "bit_length",
}
UNUSED = {
    "register", "mro", "elements", "open", "input", "law", "version_info", "with_traceback", "add_note", "type",
    "typing", "enum", "dataclass", "overload", "compile", "copyright", "credits", "dir", "eval", "exec", "exit",
    "globals", "hash", "help", "id", "license", "locals", "os", "quit", "vars",
}
BARRED = (
    ast.Global, ast.AsyncFunctionDef, ast.Await, ast.Div, ast.MatMult, ast.TryStar, ast.MatchMapping,
)


def files():
    return sorted(FOLDER.glob("*.py"))


def trees():
    return [(path, ast.parse(path.read_text(encoding="utf-8"))) for path in files()]


def bound_names(tree):
    """All names that the file binds: parameters, variables, functions, classes and imports."""
    names = local_names(tree)
    for part in ast.walk(tree):
        if isinstance(part, (ast.FunctionDef, ast.ClassDef)):
            names.add(part.name)
        if isinstance(part, ast.ImportFrom):
            names |= {name.name for name in part.names}
    return names


def local_names(tree):
    names = {part.arg for part in ast.walk(tree) if isinstance(part, ast.arg)}
    stored = [part for part in ast.walk(tree) if isinstance(part, ast.Name) and isinstance(part.ctx, ast.Store)]
    return names | {part.id for part in stored}


def method_names(tree):
    classes = [part for part in ast.walk(tree) if isinstance(part, ast.ClassDef)]
    return {one.name for part in classes for one in part.body if isinstance(one, ast.FunctionDef)}


class TestInterface(unittest.TestCase):
    """[3]: everything stands in the module of its heading, and is defined there."""

    def test_names_are_defined_in_their_files(self):
        for module, names in INTERFACE.items():
            tree = ast.parse((FOLDER / f"{module.split('.')[1]}.py").read_text(encoding="utf-8"))
            defined = {part.name for part in tree.body if isinstance(part, (ast.FunctionDef, ast.ClassDef))}
            for name in names:
                self.assertIn(name, defined, module)
                self.assertTrue(hasattr(importlib.import_module(module), name))

    def test_methods_are_defined_in_their_classes(self):
        for module, names in INTERFACE.items():
            for name in names:
                for method, arguments in METHODS.get(name, {}).items():
                    with self.subTest(name=name, method=method):
                        own = vars(getattr(importlib.import_module(module), name))
                        self.assertIn(method, own)
                        if arguments is not None:
                            is_bound = isinstance(own[method], (staticmethod, classmethod))
                            call = own[method].__func__ if is_bound else own[method]
                            self.assertEqual(str(inspect.signature(call)), arguments)

    def test_signatures(self):
        for module, names in INTERFACE.items():
            for name, arguments in names.items():
                if arguments is not None:
                    with self.subTest(name=name):
                        call = getattr(importlib.import_module(module), name)
                        self.assertEqual(str(inspect.signature(call)), arguments)

    def test_generators(self):
        for module, name in [("carrylog.life", "newest_play"), ("carrylog.counts", "safe_words")]:
            self.assertTrue(inspect.isgeneratorfunction(getattr(importlib.import_module(module), name)))
        for module, name, method in [("carrylog.ring", "Ring", "scan"), ("carrylog.games", "Game", "successors"),
                                     ("carrylog.journal", "Observer", "readings")]:
            call = getattr(getattr(importlib.import_module(module), name), method)
            self.assertTrue(inspect.isgeneratorfunction(call))


class TestLanguage(unittest.TestCase):
    """The rules of LANGUAGE.md that a short look at the text can check."""

    def test_the_folder_holds_only_python_files(self):
        """L1"""
        for path in FOLDER.iterdir():
            if path.name != "__pycache__":
                self.assertEqual(path.suffix, ".py", path)
                self.assertEqual(path.name, path.name.lower())
        self.assertTrue((FOLDER / "__init__.py").is_file())

    def test_sizes_and_characters(self):
        """L10, L14"""
        for path in files():
            text = path.read_bytes().decode("ascii")
            self.assertEqual([c for c in text if c != "\n" and not " " <= c <= "~"], [], path)
            lines = text.splitlines()
            self.assertLessEqual(len(lines), 399, path)
            self.assertLessEqual(max([len(line) for line in lines]), 120, path)

    def test_functions_are_short(self):
        """L10"""
        for path, tree in trees():
            for part in ast.walk(tree):
                if isinstance(part, ast.FunctionDef):
                    self.assertLessEqual(part.end_lineno - part.lineno + 1, 40, (path, part.name))

    def test_imports(self):
        """[1], L2, L16: nothing from outside, and by full names alone."""
        for path, tree in trees():
            for part in ast.walk(tree):
                self.assertNotIsInstance(part, ast.Import, path)
                if isinstance(part, ast.ImportFrom):
                    self.assertEqual(part.level, 0)
                    names = {name.name for name in part.names}
                    if not part.module.startswith("carrylog."):
                        self.assertLessEqual(names, OUTSIDE[part.module], path)
                    self.assertIn(part, tree.body)

    def test_barred_parts_of_the_language(self):
        """L6, L7"""
        for path, tree in trees():
            for part in ast.walk(tree):
                self.assertNotIsInstance(part, BARRED, path)
                if isinstance(part, ast.Constant):
                    self.assertNotIsInstance(part.value, (float, complex), path)
                    if isinstance(part.value, str):
                        self.assertNotIn("%", part.value)

    def test_names_that_are_read(self):
        """L8: of the builtins only those of the list."""
        for path, tree in trees():
            bound = bound_names(tree)
            for part in ast.walk(tree):
                if isinstance(part, ast.Name) and isinstance(part.ctx, ast.Load):
                    self.assertIn(part.id, bound | BUILTINS, path)

    def test_names_that_are_bound(self):
        """L12, L15, L17: no builtin and no import or class of the file is bound again."""
        for path, tree in trees():
            taken = {part.name for part in ast.walk(tree) if isinstance(part, ast.ClassDef)}
            taken |= {name.name for part in tree.body if isinstance(part, ast.ImportFrom) for name in part.names}
            for name in local_names(tree):
                self.assertNotIn(name, taken, path)
            methods = method_names(tree)
            for name in bound_names(tree) - methods:
                self.assertFalse(hasattr(builtins, name), (path, name))
                self.assertNotIn(name, UNUSED, path)
            for name in bound_names(tree) | {part.attr for part in ast.walk(tree) if isinstance(part, ast.Attribute)}:
                self.assertNotIn(name, UNUSED, path)
                self.assertIsNone(re.search("^_(cold|tuplegetter|outside|record|written_out|member_names)[0-9_]*$",
                                            name))

    def test_attributes(self):
        """L18, L25, L26: what is called or read is a method or an attribute of the package, or allowed."""
        methods, attributes, public = set(), set(), set()
        for _, tree in trees():
            methods |= method_names(tree)
            for part in ast.walk(tree):
                if isinstance(part, ast.Attribute) and isinstance(part.ctx, ast.Store):
                    attributes.add(part.attr)
                if isinstance(part, ast.ClassDef):
                    public |= {one.targets[0].id for one in part.body if isinstance(one, ast.Assign)}
        for path, tree in trees():
            for part in ast.walk(tree):
                if isinstance(part, ast.Call) and isinstance(part.func, ast.Attribute):
                    self.assertIn(part.func.attr, methods | BUILTIN_METHODS | {"__init__"}, path)
                elif isinstance(part, ast.Attribute) and part.attr != "setter":
                    self.assertIn(part.attr, methods | attributes | public | BUILTIN_METHODS, path)
        for name in attributes:
            for kind in (str, int, list, dict, set, tuple, bytes):
                self.assertFalse(hasattr(kind, name), name)
        self.assertEqual(attributes & methods, set())

    def test_each_class_has_its_own_names(self):
        """L5, L23: no property and no generator shares its name with another method."""
        plain, properties, generators = [], [], []
        for _, tree in trees():
            for part in ast.walk(tree):
                if not isinstance(part, ast.FunctionDef):
                    continue
                over = [ast.unparse(each) for each in part.decorator_list]
                if over in (["property"], [f"{part.name}.setter"]):
                    properties.append(part.name)
                elif any(isinstance(one, (ast.Yield, ast.YieldFrom)) for one in ast.walk(part)):
                    generators.append(part.name)
                else:
                    plain.append(part.name)
        self.assertEqual(set(properties) & set(plain), set())
        self.assertEqual(set(generators) & set(plain + properties), set())
        self.assertEqual(len(generators), len(set(generators)))

    def test_decorators_and_module_level(self):
        """L3, L4"""
        kinds = (ast.Expr, ast.ImportFrom, ast.FunctionDef, ast.ClassDef, ast.Assign)
        for path, tree in trees():
            for part in tree.body:
                self.assertIsInstance(part, kinds, path)
            for part in ast.walk(tree):
                if isinstance(part, (ast.FunctionDef, ast.ClassDef)):
                    for over in part.decorator_list:
                        self.assertIn(ast.unparse(over).split(".")[-1],
                                      ["property", "setter", "staticmethod", "classmethod"])


if __name__ == "__main__":
    unittest.main()
