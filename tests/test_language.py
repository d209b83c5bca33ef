"""Rules of the language subset that can be seen file by file.

Narrower than the subset in places (no generators, few builtins): what a rule allows may be let in here when it is
needed.
"""

import ast
import os
import re
import unittest

FOLDER = os.path.join(os.path.dirname(os.path.dirname(os.path.abspath(__file__))), "plansamid")

STATEMENTS = (ast.Assign, ast.AugAssign, ast.AnnAssign, ast.If, ast.While, ast.For, ast.Return, ast.Break, ast.Continue,
              ast.Pass, ast.Raise, ast.Assert, ast.Delete, ast.Nonlocal, ast.Match, ast.With, ast.Try, ast.Expr,
              ast.FunctionDef, ast.ClassDef, ast.ImportFrom)
BUILTINS = """
    len range enumerate zip min max sum abs sorted reversed int str bool list tuple dict set isinstance ord repr any all
    divmod ValueError KeyError
""".split()
METHODS = """
    append clear copy count endswith extend find get index insert isalnum isalpha isdigit islower isspace isupper items
    join keys ljust lower lstrip partition pop remove replace reverse rfind rjust rpartition rsplit rstrip setdefault
    split splitlines startswith strip update upper values zfill bit_length
""".split()
DUNDERS = ("__init__", "__eq__", "__repr__", "__str__", "__len__", "__iter__")
LIBRARY = ("heapq", "math", "itertools", "collections")
BARRED = """
    type typing typing_extensions enum Enum IntEnum StrEnum Flag IntFlag Generic Protocol ABC ABCMeta namedtuple
    NamedTuple TypedDict TYPE_CHECKING abstractmethod
""".split()
NO_NAMES = """
    register mro elements open input law version_info with_traceback add_note _cold _tuplegetter _outside _record
    _written_out _member_names
""".split()


def files():
    for name in sorted(os.listdir(FOLDER)):
        if name != "__pycache__":
            yield name


def trees():
    for name in files():
        with open(os.path.join(FOLDER, name), encoding="utf-8") as file:
            text = file.read()
        yield name, text, ast.parse(text)


def names_of(tree):
    """All names that a file binds or reads."""
    for node in ast.walk(tree):
        for field in ("id", "arg", "attr", "name"):
            if isinstance(getattr(node, field, None), str):
                yield getattr(node, field)


class LanguageTest(unittest.TestCase):

    def each(self, *kinds):
        for name, _, tree in trees():
            for node in ast.walk(tree):
                if isinstance(node, kinds):
                    yield f"{name}:{getattr(node, 'lineno', 0)}", node

    def test_files_and_signs(self):
        self.assertIn("__init__.py", files())
        for name, text, _ in trees():
            self.assertTrue(re.fullmatch(r"[a-z_]+\.py", name), name)
            self.assertTrue(all(sign == "\n" or " " <= sign <= "~" for sign in text), name)
            self.assertTrue(text.endswith("\n"), name)
            lines = text.splitlines()
            self.assertLess(len(lines), 400, name)
            self.assertLessEqual(max(len(line) for line in lines), 120, name)

    def test_functions_are_small(self):
        for where, node in self.each(ast.FunctionDef):
            self.assertLessEqual(node.end_lineno - node.lineno + 1, 40, where)

    def test_imports(self):
        own = {name[:-3] for name in files()}
        imported = {}
        for name, _, tree in trees():
            imported[name[:-3]] = set()
            for node in ast.walk(tree):
                self.assertNotIsInstance(node, ast.Import, name)
                if isinstance(node, ast.ImportFrom):
                    self.assertEqual(node.level, 0, name)
                    self.assertTrue(all(alias.asname is None and alias.name != "*" for alias in node.names), name)
                    first, *rest = node.module.split(".")
                    if first == "plansamid":
                        self.assertEqual(len(rest), 1)
                        self.assertIn(rest[0], own)
                        imported[name[:-3]].add(rest[0])
                    else:
                        self.assertIn(node.module, LIBRARY, name)
        while imported:
            ready = [name for name in imported if not imported[name] & set(imported)]
            self.assertTrue(ready, f"they import from each other: {sorted(imported)}")
            for name in ready:
                del imported[name]

    def test_module_level(self):
        for name, _, tree in trees():
            bound = []
            for node in tree.body:
                self.assertIsInstance(node, (ast.Expr, ast.ImportFrom, ast.FunctionDef, ast.ClassDef, ast.Assign), name)
                if isinstance(node, ast.Expr):
                    self.assertIsInstance(node.value, ast.Constant, name)
                elif isinstance(node, ast.Assign):
                    self.assertFalse([inner for inner in ast.walk(node) if isinstance(inner, ast.Call)], name)
                    bound.extend(target.id for target in node.targets)
                elif isinstance(node, ast.ImportFrom):
                    bound.extend(alias.name for alias in node.names)
                else:
                    bound.append(node.name)
            self.assertEqual(len(bound), len(set(bound)), name)

    def test_statements_and_expressions(self):
        for where, node in self.each(ast.stmt):
            self.assertIsInstance(node, STATEMENTS, where)
        for where, node in self.each(ast.expr):
            self.assertNotIsInstance(node, (ast.GeneratorExp, ast.Await, ast.Yield, ast.YieldFrom), where)
            if isinstance(node, ast.BinOp):
                self.assertNotIsInstance(node.op, (ast.Div, ast.MatMult), where)
            if isinstance(node, ast.Constant):
                self.assertIsInstance(node.value, (int, str, type(None)), where)
                self.assertNotIn("%", str(node.value), where)
            if isinstance(node, ast.Compare):
                for sign, other in zip(node.ops, node.comparators):
                    if isinstance(sign, (ast.Is, ast.IsNot)):
                        self.assertIsInstance(other, ast.Constant, where)

    def test_functions_and_classes(self):
        for where, node in self.each(ast.FunctionDef, ast.ClassDef):
            self.assertEqual(node.decorator_list, [], where)
        for where, node in self.each(ast.FunctionDef):
            if node.name.startswith("__"):
                self.assertIn(node.name, DUNDERS, where)

    def test_builtins_and_methods(self):
        builtins = set(dir(__builtins__) if not isinstance(__builtins__, dict) else __builtins__)
        own = set()
        for _, node in self.each(ast.FunctionDef, ast.ClassDef):
            own.add(node.name)
        for where, node in self.each(ast.Name):
            if node.id in builtins:
                self.assertIsInstance(node.ctx, ast.Load, where)
                self.assertIn(node.id, BUILTINS, where)
        for where, node in self.each(ast.Call):
            if isinstance(node.func, ast.Attribute):
                self.assertIn(node.func.attr, METHODS + sorted(own), where)
        for where, node in self.each(ast.arg):
            self.assertNotIn(node.arg, builtins, where)

    def test_locals_are_not_called_as_imports_and_classes(self):
        for name, _, tree in trees():
            taken = {alias.name for node in ast.walk(tree) if isinstance(node, ast.ImportFrom) for alias in node.names}
            taken |= {node.name for node in ast.walk(tree) if isinstance(node, ast.ClassDef)}
            for node in ast.walk(tree):
                if isinstance(node, ast.Name) and isinstance(node.ctx, ast.Store):
                    self.assertNotIn(node.id, taken, name)
                if isinstance(node, ast.arg):
                    self.assertNotIn(node.arg, taken, name)

    def test_names(self):
        for name, text, tree in trees():
            self.assertFalse(re.search(r"\b(_wall|_WallAttr)\b", text), name)
            for found in names_of(tree):
                self.assertNotIn(re.sub(r"[0-9_]+$", "", found), NO_NAMES, name)
                self.assertFalse(re.match(r"_(wall|pe_|dcw_|enum_|cm_|twin_re_|lay_|law_|stub_|sre|WallAttr)", found),
                                 found)
                self.assertTrue(found in DUNDERS or not found.startswith("__"), found)
                self.assertNotIn(found, BARRED, name)

    def test_sets_stand_where_they_may(self):
        for name, _, tree in trees():
            held = []
            for node in ast.walk(tree):
                if isinstance(node, ast.Call) and isinstance(node.func, ast.Name) and node.func.id in ("sorted", "len"):
                    held.extend(node.args)
            for node in ast.walk(tree):
                calls_set = isinstance(node, ast.Call) and isinstance(node.func, ast.Name) and node.func.id == "set"
                if calls_set or isinstance(node, (ast.Set, ast.SetComp)):
                    self.assertIn(node, held, f"{name}:{node.lineno}")
