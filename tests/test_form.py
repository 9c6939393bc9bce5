"""The form of the package's files, as far as it can be seen without running them."""

import ast
import re
import unittest
from pathlib import Path

PACKAGE = Path(__file__).resolve().parent.parent / "keepclear"

STATEMENTS = (
    ast.Assign, ast.AugAssign, ast.If, ast.While, ast.For, ast.Return, ast.Break, ast.Continue, ast.Pass, ast.Raise,
    ast.Try, ast.Expr, ast.FunctionDef, ast.ClassDef, ast.ImportFrom,
)
EXPRESSIONS = (
    ast.Constant, ast.Name, ast.Attribute, ast.Subscript, ast.Slice, ast.Call, ast.BinOp, ast.UnaryOp, ast.BoolOp,
    ast.Compare, ast.IfExp, ast.List, ast.Tuple, ast.Dict, ast.ListComp, ast.Lambda, ast.JoinedStr,
    ast.FormattedValue,
)
OWN_NAMES = set(
    "len range enumerate zip min max sum abs sorted reversed int str bool list tuple dict set frozenset isinstance "
    "ord repr any all divmod Exception ValueError TypeError KeyError IndexError LookupError ZeroDivisionError "
    "ArithmeticError OverflowError RuntimeError NotImplementedError AttributeError StopIteration".split()
)
METHODS = set(
    "append clear copy count endswith extend find get index insert isalnum isalpha isdigit islower isspace isupper "
    "items join keys ljust lower lstrip partition pop remove replace reverse rfind rjust rpartition rsplit rstrip "
    "setdefault split splitlines startswith strip update upper values zfill bit_length".split()
)
WORDS_NOWHERE = (
    "type typing typing_extensions enum Enum IntEnum StrEnum Flag IntFlag Generic Protocol ABC ABCMeta namedtuple "
    "NamedTuple TypedDict TYPE_CHECKING abstractmethod"
).split()


def files():
    return sorted(PACKAGE.rglob("*.py"))


def trees():
    return [(path, ast.parse(path.read_text())) for path in files()]


def bound_names(tree):
    names = set()
    for node in ast.walk(tree):
        if isinstance(node, ast.Name) and isinstance(node.ctx, ast.Store):
            names.add(node.id)
        elif isinstance(node, (ast.FunctionDef, ast.ClassDef)):
            names.add(node.name)
        elif isinstance(node, ast.arg):
            names.add(node.arg)
        elif isinstance(node, ast.ImportFrom):
            names.update(alias.name for alias in node.names)
    return names


class Form(unittest.TestCase):
    def test_only_plain_files(self):
        for path in PACKAGE.rglob("*"):
            if "__pycache__" not in path.parts:
                self.assertRegex(path.name, r"^[a-z][a-z0-9_]*\.py$|^__init__\.py$")

    def test_signs_and_sizes(self):
        for path in files():
            text = path.read_text()
            lines = text.split("\n")
            self.assertTrue(all(sign == "\n" or " " <= sign <= "~" for sign in text), path)
            self.assertLessEqual(len(lines), 401, path)
            self.assertLessEqual(max(len(line) for line in lines), 120, path)

    def test_words_that_stand_nowhere(self):
        for path in files():
            words = re.findall(r"\w+", path.read_text())
            self.assertEqual([word for word in words if word in WORDS_NOWHERE], [], path)

    def test_functions(self):
        for path, tree in trees():
            for node in ast.walk(tree):
                if isinstance(node, ast.FunctionDef):
                    self.assertLessEqual(node.end_lineno - node.lineno + 1, 40, (path, node.name))
                    plain = node.args
                    self.assertFalse(plain.vararg or plain.kwarg or plain.kwonlyargs or plain.posonlyargs)
                    self.assertFalse(node.decorator_list or node.returns)

    def test_statements_and_expressions(self):
        for path, tree in trees():
            for node in ast.walk(tree):
                where = (path.name, getattr(node, "lineno", 0))
                if isinstance(node, ast.stmt):
                    self.assertIsInstance(node, STATEMENTS, where)
                if isinstance(node, ast.expr):
                    self.assertIsInstance(node, EXPRESSIONS, where)
                if isinstance(node, ast.Assign):
                    self.assertEqual(len(node.targets), 1, where)
                if isinstance(node, (ast.For, ast.While)):
                    self.assertEqual(node.orelse, [], where)
                if isinstance(node, ast.ListComp):
                    self.assertEqual(len(node.generators), 1, where)
                if isinstance(node, ast.BinOp):
                    self.assertNotIsInstance(node.op, (ast.Div, ast.MatMult, ast.Pow), where)
                if isinstance(node, ast.Constant):
                    self.assertIsInstance(node.value, (int, str, type(None)), where)
                    self.assertNotIn("%", str(node.value), where)

    def test_names(self):
        for path, tree in trees():
            bound = bound_names(tree)
            self.assertEqual(bound & set(dir(__builtins__) if not isinstance(__builtins__, dict) else __builtins__),
                             set(), path)
            for node in ast.walk(tree):
                if isinstance(node, ast.Name):
                    self.assertIn(node.id, bound | OWN_NAMES, path)
            self.assertEqual([name for name in bound if name.startswith("_") and name != "__init__"], [], path)

    def test_locals_are_not_called_like_imports_or_functions(self):
        for path, tree in trees():
            top = {name for node in tree.body for name in bound_names(node)
                   if isinstance(node, ast.ImportFrom)} | {node.name for node in tree.body if hasattr(node, "name")}
            for node in tree.body:
                if isinstance(node, (ast.FunctionDef, ast.ClassDef)):
                    inner = bound_names(node) - {node.name}
                    self.assertEqual(inner & top, set(), (path, node.name))

    def test_methods_are_listed_ones(self):
        for path, tree in trees():
            for node in ast.walk(tree):
                if isinstance(node, ast.Call) and isinstance(node.func, ast.Attribute):
                    self.assertIn(node.func.attr, METHODS, path)

    def test_imports_are_the_packages_own_and_go_one_way(self):
        drawn = {}
        for path, tree in trees():
            module = "keepclear." + path.stem
            drawn[module] = set()
            for node in ast.walk(tree):
                if isinstance(node, ast.ImportFrom):
                    self.assertEqual(node.level, 0)
                    self.assertIn(node, tree.body)
                    self.assertTrue(node.module.startswith("keepclear."), path)
                    drawn[module].add(node.module)
                    source = ast.parse((PACKAGE / (node.module.split(".")[1] + ".py")).read_text())
                    made = {made.name for made in source.body if isinstance(made, (ast.FunctionDef, ast.ClassDef))}
                    made |= {target.id for made in source.body if isinstance(made, ast.Assign)
                             for target in made.targets}
                    for alias in node.names:
                        self.assertIn(alias.name, made, path)
                        self.assertIsNone(alias.asname)
        while drawn:
            free = [module for module in drawn if not drawn[module] & set(drawn)]
            self.assertTrue(free, drawn)
            for module in free:
                del drawn[module]


if __name__ == "__main__":
    unittest.main()
