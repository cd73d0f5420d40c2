"""The form of the package's files: the rules of the language that can be seen in the text."""

import ast
import builtins
import pathlib
import re
import unittest

PACKAGE = pathlib.Path(__file__).resolve().parent.parent / "pixelstages"
FILES = sorted(path for path in PACKAGE.rglob("*") if "__pycache__" not in path.parts)
TREES = {path: ast.parse(path.read_text("ascii")) for path in FILES if path.suffix == ".py"}

BUILT_IN = set(vars(builtins))
BARRED_WORDS = re.compile(
    r"\b(type|typing|typing_extensions|enum|Enum|IntEnum|StrEnum|Flag|IntFlag|Generic|Protocol|ABC|ABCMeta|namedtuple"
    r"|NamedTuple|TypedDict|TYPE_CHECKING|abstractmethod)\b|dataclass|overload|contextmanager")
BARRED_NAMES = {
    "register", "mro", "elements", "open", "input", "version_info", "with_traceback", "add_note", "compile", "dir",
    "eval", "exec", "exit", "getattr", "globals", "hasattr", "help", "id", "locals", "os", "setattr", "sys", "type",
    "vars", "chr", "print", "frozenset",
}
BUILTINS = {
    "len", "range", "enumerate", "zip", "min", "max", "sum", "abs", "sorted", "reversed", "int", "str", "bool", "list",
    "tuple", "dict", "set", "isinstance", "ord", "repr", "any", "all", "divmod", "Exception", "ValueError", "TypeError",
    "KeyError", "IndexError", "LookupError", "ZeroDivisionError", "ArithmeticError", "OverflowError", "RuntimeError",
    "NotImplementedError", "super",
}
DUNDERS = {"__init__", "__eq__", "__repr__", "__str__", "__len__", "__enter__", "__exit__", "__call__", "__iter__"}
STATEMENTS = (
    ast.Assign, ast.AugAssign, ast.AnnAssign, ast.If, ast.While, ast.For, ast.Return, ast.Break, ast.Continue, ast.Pass,
    ast.Raise, ast.Assert, ast.Delete, ast.Nonlocal, ast.Match, ast.With, ast.Try, ast.Expr, ast.FunctionDef,
    ast.ClassDef, ast.ImportFrom,
)
AT_MODULE_LEVEL = (ast.Expr, ast.ImportFrom, ast.FunctionDef, ast.ClassDef, ast.Assign)
BUILTIN_METHODS = set("""
    append clear copy count endswith extend find get index insert isalnum isalpha isdigit islower isspace isupper items
    join keys ljust lower lstrip partition pop remove replace reverse rfind rjust rpartition rsplit rstrip setdefault
    split splitlines startswith strip update upper values zfill bit_length add discard""".split())


def nodes(kind):
    return [(path, node) for path, tree in TREES.items() for node in ast.walk(tree) if isinstance(node, kind)]


def is_docstring(node):
    return isinstance(node, ast.Expr) and isinstance(node.value, ast.Constant) and isinstance(node.value.value, str)


class Form(unittest.TestCase):
    def told(self, path, node):
        return f"{path.name}:{getattr(node, 'lineno', 0)}"

    def test_files_and_signs(self):
        self.assertTrue(FILES)
        for path in FILES:
            self.assertRegex(path.name, r"^[a-z0-9_]+\.py$")
            self.assertFalse(path.stem in BUILT_IN, path.name)
            text = path.read_text("ascii")
            self.assertRegex(text, r"\A[ -~\n]*\Z", path.name)
            self.assertIsNone(BARRED_WORDS.search(text), path.name)
            self.assertLessEqual(len(text.splitlines()), 400, path.name)
            self.assertLessEqual(max([len(line) for line in text.splitlines()]), 120, path.name)

    def test_module_level(self):
        for path, tree in TREES.items():
            self.assertTrue(is_docstring(tree.body[0]), path.name)
            bound = []
            for node in tree.body:
                self.assertIsInstance(node, AT_MODULE_LEVEL, self.told(path, node))
                if isinstance(node, ast.Expr):
                    self.assertTrue(is_docstring(node), self.told(path, node))
                elif isinstance(node, ast.Assign):
                    bound += [target.id for target in node.targets]
                elif isinstance(node, ast.ImportFrom):
                    bound += [alias.asname or alias.name for alias in node.names]
                else:
                    bound.append(node.name)
            self.assertEqual(len(bound), len(set(bound)), path.name)

    def test_imports_go_to_the_file_that_defines_and_never_in_a_ring(self):
        behind = {path.stem: set() for path in TREES}
        for path, node in nodes((ast.Import, ast.ImportFrom)):
            self.assertIsInstance(node, ast.ImportFrom, self.told(path, node))
            self.assertEqual(node.level, 0, self.told(path, node))
            package, stem = node.module.split(".")
            self.assertEqual(package, "pixelstages", self.told(path, node))
            behind[path.stem].add(stem)
            defined = [getattr(there, "name", None) or there.targets[0].id for there in TREES[PACKAGE / f"{stem}.py"].body
                       if isinstance(there, (ast.FunctionDef, ast.ClassDef, ast.Assign))]
            for alias in node.names:
                self.assertIn(alias.name, defined, self.told(path, node))
        while behind:
            free = [stem for stem in behind if not behind[stem] & set(behind)]
            self.assertTrue(free, f"a ring among {sorted(behind)}")
            for stem in free:
                del behind[stem]

    def test_every_import_is_used(self):
        for path, tree in TREES.items():
            used = {node.id for node in ast.walk(tree) if isinstance(node, ast.Name)}
            for node in tree.body:
                if isinstance(node, ast.ImportFrom):
                    self.assertEqual([alias.name for alias in node.names if alias.name not in used], [], path.name)

    def test_statements(self):
        for path, node in nodes(ast.stmt):
            self.assertIsInstance(node, STATEMENTS, self.told(path, node))
        for path, node in nodes((ast.FunctionDef, ast.ClassDef)):
            self.assertLessEqual(node.end_lineno - node.lineno + 1, 40 if isinstance(node, ast.FunctionDef) else 400,
                                 self.told(path, node))
            for plain in node.decorator_list:
                self.assertIn(ast.unparse(plain), ("property", "staticmethod", "classmethod"), self.told(path, node))

    def test_names(self):
        for path, tree in TREES.items():
            fixed = [node.name for node in tree.body if isinstance(node, ast.ClassDef)]
            fixed += [alias.name for node in tree.body if isinstance(node, ast.ImportFrom) for alias in node.names]
            for node in ast.walk(tree):
                if isinstance(node, ast.arg):
                    name = node.arg
                elif isinstance(node, ast.Name) and isinstance(node.ctx, ast.Store):
                    name = node.id
                else:
                    continue
                self.assertFalse(name in BUILT_IN or name in fixed or name in BARRED_NAMES or name[0] == "_",
                                 f"{self.told(path, node)} {name}")

    def test_builtins(self):
        for path, node in nodes(ast.Name):
            if node.id in BUILT_IN:
                self.assertIn(node.id, BUILTINS, self.told(path, node))

    def test_methods_and_fields(self):
        methods = {node.name for _, owner in nodes(ast.ClassDef) for node in owner.body
                   if isinstance(node, ast.FunctionDef)}
        fields = {node.attr for _, node in nodes(ast.Attribute) if isinstance(node.ctx, ast.Store)}
        self.assertEqual(methods & fields, set())
        for path, node in nodes(ast.Attribute):
            self.assertIn(node.attr, methods | fields | BUILTIN_METHODS, self.told(path, node))
        self.assertEqual({name for name in methods if name.startswith("__")} - DUNDERS, set())

    def test_expressions(self):
        barred = (ast.Await, ast.AsyncFor, ast.GeneratorExp, ast.Global, ast.Div)
        for path, node in nodes(barred):
            self.fail(self.told(path, node))
        for path, node in nodes(ast.BinOp):
            if isinstance(node.op, ast.Pow):
                self.assertIsInstance(node.right, ast.Constant, self.told(path, node))
        for path, node in nodes(ast.Constant):
            self.assertNotIsInstance(node.value, (float, complex), self.told(path, node))
            if isinstance(node.value, str):
                self.assertNotIn("%", node.value, self.told(path, node))
        for path, node in nodes(ast.Compare):
            for sign, other in zip(node.ops, node.comparators):
                if isinstance(sign, (ast.Is, ast.IsNot)):
                    self.assertIsInstance(other, ast.Constant, self.told(path, node))

    def is_simple(self, node):
        if isinstance(node, (ast.List, ast.Tuple)):
            return all([self.is_simple(one) for one in node.elts])
        return isinstance(node, (ast.Name, ast.Attribute, ast.Constant))

    def test_what_is_done_finally(self):
        for path, node in nodes(ast.Try):
            for row in node.finalbody:
                if isinstance(row, ast.Expr):
                    self.assertEqual(row.value.func.attr, "append", self.told(path, row))
                    self.assertTrue(all([self.is_simple(one) for one in row.value.args]), self.told(path, row))
                else:
                    self.assertIsInstance(row, ast.Assign, self.told(path, row))
                    self.assertTrue(self.is_simple(row.value), self.told(path, row))
            for handler in node.handlers:
                named = ast.unparse(handler.type).strip("()").split(", ")
                self.assertEqual([name for name in named if name in BUILT_IN], [], self.told(path, handler))

    def test_what_is_iterated_at_once_is_not_stored(self):
        at_once = {"zip", "enumerate", "reversed", "range"}
        for path, node in nodes((ast.Assign, ast.AugAssign, ast.Return, ast.IfExp, ast.Starred)):
            for child in ast.iter_child_nodes(node):
                if isinstance(child, ast.Call) and isinstance(child.func, ast.Name):
                    self.assertNotIn(child.func.id, at_once, self.told(path, child))
        for path, node in nodes(ast.Starred):
            self.assertIsInstance(node.value, (ast.Name, ast.Attribute), self.told(path, node))

    def test_tables_are_only_read(self):
        tables = {node.targets[0].id for tree in TREES.values() for node in tree.body
                  if isinstance(node, ast.Assign) and isinstance(node.value, (ast.List, ast.Dict))}
        for path, tree in TREES.items():
            for node in ast.walk(tree):
                for child in ast.iter_child_nodes(node):
                    if isinstance(child, ast.Name) and child.id in tables and isinstance(child.ctx, ast.Load):
                        self.assertIsInstance(node, (ast.Subscript, ast.Compare, ast.Attribute), self.told(path, child))


if __name__ == "__main__":
    unittest.main()
