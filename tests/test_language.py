"""The files of the package keep to the plain subset of Python that the project writes in."""

import ast
import builtins
import re
import unittest
import warnings
from pathlib import Path

PACKAGE = Path(__file__).resolve().parent.parent / "turnpowers"
FILES = sorted(PACKAGE.glob("*.py"))

LIBRARY = {
    "heapq": {"heappush", "heappop", "heapify", "heapreplace", "heappushpop"},
    "math": {"gcd", "lcm", "isqrt", "comb", "perm", "factorial"},
    "collections": {"defaultdict"},
}
BUILTINS = set((
    "len range enumerate zip min max sum abs sorted reversed int str bool list tuple dict set isinstance ord repr "
    "any all divmod pow iter next map ValueError TypeError KeyError IndexError LookupError ZeroDivisionError "
    "ArithmeticError OverflowError RuntimeError NotImplementedError AttributeError Exception NotImplemented super "
    "property staticmethod classmethod"
).split())
BARRED = set((
    "register mro elements open input law version_info with_traceback add_note type typing enum Enum Flag Generic "
    "Protocol ABC namedtuple dataclass overload contextmanager compile eval exec globals locals vars dir id help"
).split())
DUNDERS = set((
    "__init__ __eq__ __repr__ __str__ __len__ __enter__ __exit__ __call__ __iter__ __contains__ __getitem__"
).split())
DECORATORS = {"property", "staticmethod", "classmethod"}
TOP = (ast.Import, ast.ImportFrom, ast.FunctionDef, ast.ClassDef, ast.Assign, ast.Expr)


def trees():
    """Each file of the package, by its path, as a tree."""
    return [(path, ast.parse(path.read_text(encoding="utf-8"))) for path in FILES]


def names_in(tree):
    """All names that a tree binds, reads or imports."""
    found = []
    for node in ast.walk(tree):
        if isinstance(node, ast.Name):
            found.append(node.id)
        elif isinstance(node, (ast.FunctionDef, ast.ClassDef)):
            found.append(node.name)
        elif isinstance(node, ast.arg):
            found.append(node.arg)
        elif isinstance(node, ast.alias):
            found.append(node.asname or node.name)
        elif isinstance(node, ast.Attribute):
            found.append(node.attr)
        elif isinstance(node, ast.keyword) and node.arg:
            found.append(node.arg)
    return found


def bound_in(tree):
    """All names that functions and classes, parameters and targets of a tree bind; no attributes."""
    found = [node.name for node in ast.walk(tree) if isinstance(node, (ast.FunctionDef, ast.ClassDef))]
    found += [node.arg for node in ast.walk(tree) if isinstance(node, ast.arg)]
    found += [node.id for node in ast.walk(tree) if isinstance(node, ast.Name) and not isinstance(node.ctx, ast.Load)]
    return found


class FilesTest(unittest.TestCase):
    def test_files(self):
        self.assertIn(PACKAGE / "__init__.py", FILES)
        others = [path for path in PACKAGE.iterdir() if path not in FILES and path.name != "__pycache__"]
        self.assertEqual(others, [])
        for path in FILES:
            self.assertTrue(re.fullmatch("[a-z_][a-z0-9_]*", path.stem), path)
            self.assertFalse(path.stem.startswith("test"), path)

    def test_sizes_and_characters(self):
        for path, tree in trees():
            text = path.read_text(encoding="utf-8")
            self.assertLessEqual(len(text.splitlines()), 399, path)
            self.assertTrue(all(sign == "\n" or " " <= sign <= "~" for sign in text), path)
            self.assertLessEqual(max(len(line) for line in text.splitlines()), 120, path)
            for node in ast.walk(tree):
                if isinstance(node, ast.FunctionDef):
                    self.assertLessEqual(node.end_lineno - node.lineno + 1, 40, (path, node.name))


    def test_no_warnings(self):
        for path in FILES:
            with warnings.catch_warnings():
                warnings.simplefilter("error")
                compile(path.read_text(encoding="utf-8"), str(path), "exec")


class NamesTest(unittest.TestCase):
    def test_barred_names(self):
        for path, tree in trees():
            for name in names_in(tree):
                self.assertNotIn(name, BARRED, path)
                self.assertTrue(not name.startswith("__") or name in DUNDERS, (path, name))

    def test_builtins(self):
        for path, tree in trees():
            for node in ast.walk(tree):
                # Python itself keeps what an example tells under the name _ among the builtins.
                if isinstance(node, ast.Name) and node.id != "_" and hasattr(builtins, node.id):
                    self.assertIn(node.id, BUILTINS, path)
            for name in bound_in(tree):
                self.assertFalse(hasattr(builtins, name) and name not in DUNDERS | {"_"}, (path, name))

    def test_one_meaning_for_imports_and_classes(self):
        for path, tree in trees():
            imports = [alias.name for node in tree.body if isinstance(node, ast.ImportFrom) for alias in node.names]
            classes = [node.name for node in tree.body if isinstance(node, ast.ClassDef)]
            functions = [node.name for node in tree.body if isinstance(node, ast.FunctionDef)]
            top = imports + classes + functions
            self.assertEqual(len(top), len(set(top)), path)
            for node in ast.walk(tree):
                if isinstance(node, ast.FunctionDef):
                    inside = {name for part in node.body + [node.args] for name in bound_in(part)}
                    self.assertEqual(inside & set(imports + classes), set(), (path, node.name))


class ImportsTest(unittest.TestCase):
    def test_imports(self):
        for path, tree in trees():
            for node in ast.walk(tree):
                self.assertNotIsInstance(node, ast.Import, path)
                if isinstance(node, ast.ImportFrom):
                    self.assertIn(node, tree.body, path)
                    self.check_import(path, node)

    def check_import(self, path, node):
        self.assertEqual(node.level, 0, path)
        names = {alias.name for alias in node.names}
        if node.module in LIBRARY:
            self.assertTrue(names <= LIBRARY[node.module], path)
            return
        self.assertEqual(node.module.split(".")[0], "turnpowers", path)
        made = ast.parse((PACKAGE / (node.module.split(".")[1] + ".py")).read_text(encoding="utf-8"))
        defined = {part.name for part in made.body if isinstance(part, (ast.FunctionDef, ast.ClassDef))}
        defined |= {target.id for part in made.body if isinstance(part, ast.Assign) for target in part.targets}
        self.assertTrue(names <= defined, (path, node.module, names - defined))

    def test_no_ring_of_imports(self):
        imports = {path.stem: {node.module.split(".")[1] for node in tree.body
                               if isinstance(node, ast.ImportFrom) and node.module.startswith("turnpowers.")}
                   for path, tree in trees()}
        while imports:
            free = [name for name in imports if not imports[name] & set(imports)]
            self.assertNotEqual(free, [], imports)
            imports = {name: imports[name] for name in imports if name not in free}


class StatementsTest(unittest.TestCase):
    def test_module_level(self):
        for path, tree in trees():
            for node in tree.body:
                self.assertIsInstance(node, TOP, path)
                if isinstance(node, ast.Expr):
                    self.assertIsInstance(node.value, ast.Constant, path)

    def test_values_and_expressions(self):
        barred = (ast.Div, ast.GeneratorExp, ast.Global, ast.AsyncFunctionDef, ast.Await, ast.Yield, ast.YieldFrom)
        for path, tree in trees():
            for node in ast.walk(tree):
                self.assertNotIsInstance(node, barred, path)
                if isinstance(node, ast.Constant):
                    self.assertNotIsInstance(node.value, (float, complex, bytes), path)
                    self.assertFalse(isinstance(node.value, str) and "%" in node.value, path)
                if isinstance(node, ast.Compare) and any(isinstance(op, (ast.Is, ast.IsNot)) for op in node.ops):
                    self.assertIsInstance(node.comparators[0], ast.Constant, path)
                if isinstance(node, ast.BinOp) and isinstance(node.op, ast.Pow):
                    self.assertIsInstance(node.right, ast.Constant, path)
                for decorator in getattr(node, "decorator_list", []):
                    self.assertIn(getattr(decorator, "id", None), DECORATORS, path)

    def test_reversed(self):
        # A class has an index: so just what is surely a list, a tuple or a range is gone through from its end.
        for path, tree in trees():
            for node in ast.walk(tree):
                if isinstance(node, ast.Call) and getattr(node.func, "id", None) == "reversed":
                    self.assertIsInstance(node.args[0], (ast.Call, ast.List, ast.Tuple), path)
                    if isinstance(node.args[0], ast.Call):
                        self.assertIn(getattr(node.args[0].func, "id", None), ("list", "tuple", "sorted", "range"), path)

    def test_what_is_iterated_at_once_is_not_kept(self):
        for path, tree in trees():
            for node in ast.walk(tree):
                if isinstance(node, (ast.Assign, ast.Return)) and isinstance(node.value, ast.Call):
                    name = getattr(node.value.func, "id", getattr(node.value.func, "attr", None))
                    self.assertNotIn(name, ("range", "zip", "enumerate", "reversed", "map", "items", "values"), path)

    def test_handlers(self):
        own = {node.name for path, tree in trees() for node in tree.body
               if path.stem == "errors" and isinstance(node, ast.ClassDef)}
        for path, tree in trees():
            for node in ast.walk(tree):
                if isinstance(node, ast.ExceptHandler):
                    names = node.type.elts if isinstance(node.type, ast.Tuple) else [node.type]
                    self.assertTrue({name.id for name in names} <= own, path)
                if isinstance(node, ast.Raise) and node.exc is not None:
                    self.assertIn(node.exc.func.id, own | {"TypeError"}, path)

    def test_exits_do_nothing_but_assign(self):
        for path, tree in trees():
            for node in ast.walk(tree):
                if isinstance(node, ast.FunctionDef) and node.name == "__exit__":
                    for row in node.body:
                        self.assertIsInstance(row, ast.Assign, path)
                        self.assertIsInstance(row.value, ast.Attribute, path)

    def test_sets_are_not_iterated(self):
        for path, tree in trees():
            for node in ast.walk(tree):
                if isinstance(node, (ast.For, ast.comprehension)):
                    self.assertNotIsInstance(node.iter, (ast.Set, ast.SetComp), path)


if __name__ == "__main__":
    unittest.main()
