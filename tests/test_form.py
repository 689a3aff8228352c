"""The form: those rules of the program's part of Python that can be read off its files."""

import ast
import builtins
import re
import unittest
from pathlib import Path

PACKAGE = Path(__file__).resolve().parent.parent / "sharesample"
FILES = sorted(PACKAGE.rglob("*.py"))

KINDS = """Module FunctionDef ClassDef arguments arg Assign AugAssign If While For Return Break Continue Pass Raise Try
ExceptHandler Expr ImportFrom alias Constant List Tuple Dict Set Name Attribute Subscript Slice Call keyword Lambda
BinOp UnaryOp BoolOp Compare IfExp ListComp comprehension JoinedStr FormattedValue Load Store
Add Sub Mult FloorDiv Mod Pow BitAnd BitOr BitXor LShift RShift Invert USub UAdd Not And Or
Eq NotEq Lt LtE Gt GtE In NotIn Is IsNot""".split()

OWN_NAMES = """len range enumerate zip min max sum abs sorted reversed int str bool list tuple dict set frozenset isinstance
ord repr any all divmod Exception ValueError TypeError KeyError IndexError LookupError ZeroDivisionError ArithmeticError
OverflowError RuntimeError NotImplementedError AttributeError StopIteration""".split()

OWN_METHODS = """append clear copy count endswith extend find get index insert isalnum isalpha isdigit islower isspace
isupper items join keys ljust lower lstrip partition pop remove replace reverse rfind rjust rpartition rsplit rstrip
setdefault split splitlines startswith strip update upper values zfill bit_length""".split()

NO_WORDS = """type typing typing_extensions enum Enum IntEnum StrEnum Flag IntFlag Generic Protocol ABC ABCMeta namedtuple
NamedTuple TypedDict TYPE_CHECKING abstractmethod""".split()


def trees():
    return [(path, ast.parse(path.read_text(encoding="utf-8"))) for path in FILES]


def bound_names(tree):
    for node in ast.walk(tree):
        if isinstance(node, ast.Name) and isinstance(node.ctx, ast.Store):
            yield node.id
        if isinstance(node, ast.arg):
            yield node.arg
        if isinstance(node, (ast.FunctionDef, ast.ClassDef)):
            yield node.name


class Form(unittest.TestCase):
    def test_files(self):
        self.assertTrue((PACKAGE / "__init__.py").is_file())
        for path in PACKAGE.rglob("*"):
            if "__pycache__" not in path.parts and path.is_file():
                self.assertRegex(path.name, r"\A[a-z0-9_]+\.py\Z")

    def test_signs_and_sizes(self):
        for path in FILES:
            text = path.read_text(encoding="utf-8")
            self.assertRegex(text, r"\A[ -~\n]*\Z", path.name)
            self.assertLessEqual(len(text.splitlines()), 400, path.name)
            self.assertLessEqual(max(len(line) for line in text.splitlines()), 120, path.name)
            self.assertFalse(set(re.findall(r"\w+", text)) & set(NO_WORDS), path.name)

    def test_functions_are_short(self):
        for path, tree in trees():
            for node in ast.walk(tree):
                if isinstance(node, ast.FunctionDef):
                    self.assertLessEqual(node.end_lineno - node.lineno + 1, 40, (path.name, node.name))
                    self.assertEqual(node.decorator_list, [])
                    self.assertIsNone(node.args.vararg or node.args.kwarg)
                    self.assertEqual(node.args.kwonlyargs + node.args.posonlyargs, [])

    def test_kinds_of_code(self):
        for path, tree in trees():
            for node in ast.walk(tree):
                self.assertIn(type(node).__name__, KINDS, (path.name, getattr(node, "lineno", None)))
                if isinstance(node, ast.Constant):
                    self.assertIn(type(node.value), (int, str, bool, type(None)))
                    if isinstance(node.value, str):
                        self.assertNotIn("%", node.value)
                if isinstance(node, ast.Assign):
                    self.assertEqual(len(node.targets), 1, (path.name, node.lineno))
                if isinstance(node, ast.ListComp):
                    self.assertEqual(len(node.generators), 1, (path.name, node.lineno))
                    self.assertLessEqual(len(node.generators[0].ifs), 1, (path.name, node.lineno))
                if isinstance(node, (ast.For, ast.While)):
                    self.assertEqual(node.orelse, [], (path.name, node.lineno))

    def test_imports_are_the_packages_own(self):
        defined = {f"sharesample.{path.stem}": set(bound_names(ast.Module(tree.body, []))) for path, tree in trees()}
        for path, tree in trees():
            for node in ast.walk(tree):
                if isinstance(node, ast.ImportFrom):
                    self.assertIn(node.module, defined, path.name)
                    self.assertEqual(node.level, 0)
                    for name in node.names:
                        self.assertIn(name.name, defined[node.module], path.name)

    def test_names(self):
        for path, tree in trees():
            own = set(bound_names(tree))
            for name in own:
                if name not in ("__init__", "__eq__", "__repr__", "__str__", "__len__", "__all__", "__version__"):
                    self.assertFalse(name.startswith("_"), (path.name, name))
            for node in ast.walk(tree):
                if isinstance(node, ast.Name) and hasattr(builtins, node.id):
                    self.assertIn(node.id, OWN_NAMES, (path.name, node.lineno))
                    self.assertIsInstance(node.ctx, ast.Load, (path.name, node.lineno))
                if isinstance(node, ast.arg):
                    self.assertFalse(hasattr(builtins, node.arg), (path.name, node.arg))

    def test_each_name_once_at_the_top_and_no_import_hidden(self):
        for path, tree in trees():
            rows = [node for node in tree.body if isinstance(node, ast.ImportFrom)]
            imported = [alias.asname or alias.name for node in rows for alias in node.names]
            top = list(imported)
            classes = set()
            for node in tree.body:
                if isinstance(node, (ast.FunctionDef, ast.ClassDef)):
                    top.append(node.name)
                if isinstance(node, ast.ClassDef):
                    classes.add(node.name)
                if isinstance(node, ast.Assign):
                    top.append(node.targets[0].id)
            self.assertEqual(sorted(top), sorted(set(top)), path.name)
            used = {node.id for node in ast.walk(tree) if isinstance(node, ast.Name)}
            self.assertEqual(set(imported) - used, set(), path.name)
            for node in ast.walk(tree):
                if isinstance(node, ast.FunctionDef):
                    inside = set(bound_names(node)) - {node.name}
                    self.assertEqual(inside & (set(imported) | classes), set(), (path.name, node.name))

    def test_no_two_files_draw_from_one_another(self):
        drawn = {}
        for path, tree in trees():
            modules = [node.module for node in ast.walk(tree) if isinstance(node, ast.ImportFrom)]
            drawn[path.stem] = {module.split(".")[-1] for module in modules}
        while drawn:
            free = [name for name in drawn if not drawn[name] & set(drawn)]
            self.assertTrue(free, sorted(drawn))
            for name in free:
                del drawn[name]

    def test_walked_at_once(self):
        for path, tree in trees():
            for node in ast.walk(tree):
                if isinstance(node, (ast.Assign, ast.Return)) and isinstance(node.value, ast.Call):
                    asked = node.value.func
                    name = asked.id if isinstance(asked, ast.Name) else getattr(asked, "attr", None)
                    kept = ("zip", "enumerate", "reversed", "range", "items", "keys", "values", "set", "frozenset")
                    self.assertNotIn(name, kept, (path.name, node.lineno))

    def test_methods(self):
        methods = {item.name for path, tree in trees() for node in tree.body if isinstance(node, ast.ClassDef)
                   for item in node.body if isinstance(item, ast.FunctionDef)}
        for path, tree in trees():
            for node in ast.walk(tree):
                if isinstance(node, ast.Call) and isinstance(node.func, ast.Attribute):
                    self.assertIn(node.func.attr, methods | set(OWN_METHODS), (path.name, node.lineno))

    def test_classes(self):
        taken = {name for kind in (str, int, list, tuple, dict, set, bytes) for name in dir(kind)}
        for path, tree in trees():
            for node in ast.walk(tree):
                if isinstance(node, ast.ClassDef):
                    self.assertIn(node, tree.body, (path.name, node.name))
                    self.assertLessEqual(len(node.bases), 1, (path.name, node.name))
                    self.assertEqual(node.keywords + node.decorator_list, [])
                    for item in node.body:
                        self.assertIsInstance(item, (ast.FunctionDef, ast.Pass), (path.name, item.lineno))
                    methods = [item.name for item in node.body if isinstance(item, ast.FunctionDef)]
                    self.assertEqual(sorted(methods), sorted(set(methods)), (path.name, node.name))
                    self.assertEqual(set(methods) & taken - {"__init__"}, set(), (path.name, node.name))
                if isinstance(node, ast.Attribute) and isinstance(node.ctx, ast.Store):
                    self.assertNotIn(node.attr, taken, (path.name, node.lineno))
                    self.assertIsInstance(node.value, ast.Name, (path.name, node.lineno))
                    self.assertEqual(node.value.id, "self", (path.name, node.lineno))

    def test_is_stands_beside_none_true_and_false(self):
        for path, tree in trees():
            for node in ast.walk(tree):
                if isinstance(node, ast.Compare):
                    for operation, other in zip(node.ops, node.comparators):
                        if isinstance(operation, (ast.Is, ast.IsNot)):
                            self.assertIsInstance(other, ast.Constant, (path.name, node.lineno))
                            self.assertIn(repr(other.value), ("None", "True", "False"), (path.name, node.lineno))


if __name__ == "__main__":
    unittest.main()
