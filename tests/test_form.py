"""The form of the package's files, as far as it can be seen without running them."""

import ast
import builtins
import re
import unittest
from pathlib import Path

PACKAGE = Path(__file__).resolve().parent.parent / "keepclear"

STATEMENTS = (
    ast.Assign, ast.AugAssign, ast.If, ast.While, ast.For, ast.Return, ast.Break, ast.Continue, ast.Pass, ast.Raise,
    ast.Try, ast.Expr, ast.FunctionDef, ast.ClassDef, ast.ImportFrom,
)
EXPRESSIONS = (
    ast.Constant, ast.Name, ast.Attribute, ast.Subscript, ast.Slice, ast.Call, ast.BinOp, ast.UnaryOp, ast.BoolOp,
    ast.Compare, ast.IfExp, ast.List, ast.Tuple, ast.Dict, ast.ListComp, ast.Lambda, ast.JoinedStr,
    ast.FormattedValue,
)
OWN_NAMES = set(
    "len range enumerate zip min max sum abs sorted reversed int str bool list tuple dict set frozenset isinstance "
    "ord repr any all divmod Exception ValueError TypeError KeyError IndexError LookupError ZeroDivisionError "
    "ArithmeticError OverflowError RuntimeError NotImplementedError AttributeError StopIteration".split()
)
METHODS = set(
    "append clear copy count endswith extend find get index insert isalnum isalpha isdigit islower isspace isupper "
    "items join keys ljust lower lstrip partition pop remove replace reverse rfind rjust rpartition rsplit rstrip "
    "setdefault split splitlines startswith strip update upper values zfill bit_length".split()
)
WORDS_NOWHERE = (
    "type typing typing_extensions enum Enum IntEnum StrEnum Flag IntFlag Generic Protocol ABC ABCMeta namedtuple "
    "NamedTuple TypedDict TYPE_CHECKING abstractmethod"
).split()
WALKERS = ("zip", "enumerate", "reversed", "range")
VIEWS = ("items", "keys", "values")
TAKE_WALKERS = "list tuple dict sorted sum any all enumerate zip min max".split()
KEYWORDS = {"sorted": {"key", "reverse"}, "min": {"key", "default"}, "max": {"key", "default"}, "sum": {"start"},
            "enumerate": {"start"}, "zip": {"strict"}}
NOT_NAMES = set(
    "register mro elements open input version_info with_traceback add_note attrgetter breakpoint builtins compile "
    "copyright credits delattr dir eval exec exit gc getattr globals hasattr help id importlib license locals "
    "methodcaller os quit setattr super type vars sys chr print float bytes".split()
)
NOT_VALUES = set(
    "items keys values pop update append clear extend insert remove reverse setdefault sort args encode format".split()
)
NOT_FILES = "test tests testing site conftest sitecustomize usercustomize".split()


def files():
    return sorted(PACKAGE.rglob("*.py"))


def trees():
    return [(path, ast.parse(path.read_text())) for path in files()]


def bound_names(tree):
    names = set()
    for node in ast.walk(tree):
        if isinstance(node, ast.Name) and isinstance(node.ctx, ast.Store):
            names.add(node.id)
        elif isinstance(node, (ast.FunctionDef, ast.ClassDef)):
            names.add(node.name)
        elif isinstance(node, ast.arg):
            names.add(node.arg)
        elif isinstance(node, ast.ImportFrom):
            names.update(alias.name for alias in node.names)
    return names


def parents(tree):
    return {child: node for node in ast.walk(tree) for child in ast.iter_child_nodes(node)}


def is_plain(node, functions):
    """A plain value as the top of a file may hold it."""
    if isinstance(node, ast.Constant):
        return isinstance(node.value, (int, str, type(None)))
    if isinstance(node, ast.UnaryOp):
        return isinstance(node.op, ast.USub) and is_plain(node.operand, functions)
    if isinstance(node, (ast.List, ast.Tuple)):
        return all(is_plain(part, functions) for part in node.elts)
    if isinstance(node, ast.Dict):
        return all(is_plain(part, functions) for part in node.keys + node.values)
    return isinstance(node, ast.Name) and node.id in functions


def holds_no_lists(node):
    """A list or dict of a file's top has no list or dict within it."""
    return not any(isinstance(part, (ast.List, ast.Dict)) for part in ast.walk(node) if part is not node)


class Form(unittest.TestCase):
    def test_only_plain_files(self):
        for path in PACKAGE.rglob("*"):
            if "__pycache__" not in path.parts:
                self.assertRegex(path.name, r"^[a-z][a-z0-9_]*\.py$|^__init__\.py$")

    def test_signs_and_sizes(self):
        for path in files():
            text = path.read_text()
            lines = text.split("\n")
            self.assertTrue(all(sign == "\n" or " " <= sign <= "~" for sign in text), path)
            self.assertLessEqual(len(lines), 401, path)
            self.assertLessEqual(max(len(line) for line in lines), 120, path)

    def test_words_that_stand_nowhere(self):
        for path in files():
            words = re.findall(r"\w+", path.read_text())
            self.assertEqual([word for word in words if word in WORDS_NOWHERE], [], path)

    def test_functions(self):
        for path, tree in trees():
            for node in ast.walk(tree):
                if isinstance(node, ast.FunctionDef):
                    self.assertLessEqual(node.end_lineno - node.lineno + 1, 40, (path, node.name))
                    plain = node.args
                    self.assertFalse(plain.vararg or plain.kwarg or plain.kwonlyargs or plain.posonlyargs)
                    self.assertFalse(node.decorator_list or node.returns)

    def test_statements_and_expressions(self):
        for path, tree in trees():
            for node in ast.walk(tree):
                where = (path.name, getattr(node, "lineno", 0))
                if isinstance(node, ast.stmt):
                    self.assertIsInstance(node, STATEMENTS, where)
                if isinstance(node, ast.expr):
                    self.assertIsInstance(node, EXPRESSIONS, where)
                if isinstance(node, ast.Assign):
                    self.assertEqual(len(node.targets), 1, where)
                if isinstance(node, (ast.For, ast.While)):
                    self.assertEqual(node.orelse, [], where)
                if isinstance(node, ast.ListComp):
                    self.assertEqual(len(node.generators), 1, where)
                if isinstance(node, ast.BinOp):
                    self.assertNotIsInstance(node.op, (ast.Div, ast.MatMult, ast.Pow), where)
                if isinstance(node, ast.Constant):
                    self.assertIsInstance(node.value, (int, str, type(None)), where)
                    self.assertNotIn("%", str(node.value), where)

    def test_names(self):
        for path, tree in trees():
            bound = bound_names(tree)
            self.assertEqual(bound & set(dir(__builtins__) if not isinstance(__builtins__, dict) else __builtins__),
                             set(), path)
            for node in ast.walk(tree):
                if isinstance(node, ast.Name):
                    self.assertIn(node.id, bound | OWN_NAMES, path)
            self.assertEqual([name for name in bound if name.startswith("_") and name != "__init__"], [], path)

    def test_locals_are_not_called_like_imports_or_functions(self):
        for path, tree in trees():
            top = {name for node in tree.body for name in bound_names(node)
                   if isinstance(node, ast.ImportFrom)} | {node.name for node in tree.body if hasattr(node, "name")}
            for node in tree.body:
                if isinstance(node, (ast.FunctionDef, ast.ClassDef)):
                    inner = bound_names(node) - {node.name}
                    self.assertEqual(inner & top, set(), (path, node.name))

    def test_methods_are_listed_ones(self):
        for path, tree in trees():
            for node in ast.walk(tree):
                if isinstance(node, ast.Call) and isinstance(node.func, ast.Attribute):
                    self.assertIn(node.func.attr, METHODS, path)

    def test_imports_are_the_packages_own_and_go_one_way(self):
        drawn = {}
        for path, tree in trees():
            module = "keepclear." + path.stem
            drawn[module] = set()
            for node in ast.walk(tree):
                if isinstance(node, ast.ImportFrom):
                    self.assertEqual(node.level, 0)
                    self.assertIn(node, tree.body)
                    self.assertTrue(node.module.startswith("keepclear."), path)
                    drawn[module].add(node.module)
                    source = ast.parse((PACKAGE / (node.module.split(".")[1] + ".py")).read_text())
                    made = {made.name for made in source.body if isinstance(made, (ast.FunctionDef, ast.ClassDef))}
                    made |= {target.id for made in source.body if isinstance(made, ast.Assign)
                             for target in made.targets}
                    for alias in node.names:
                        self.assertIn(alias.name, made, path)
                        self.assertIsNone(alias.asname)
        while drawn:
            free = [module for module in drawn if not drawn[module] & set(drawn)]
            self.assertTrue(free, drawn)
            for module in free:
                del drawn[module]

    def test_file_names(self):
        for path in files():
            self.assertNotIn(path.stem, NOT_FILES)
            self.assertNotIn(path.stem, dir(builtins))
        self.assertEqual(len([node for node in ast.parse((PACKAGE / "__init__.py").read_text()).body]), 1)

    def test_the_top_of_a_file(self):
        for path, tree in trees():
            functions, bound = set(), []
            for place, node in enumerate(tree.body):
                if isinstance(node, ast.Expr):
                    self.assertEqual((place, type(node.value.value)), (0, str), path)
                elif isinstance(node, ast.Assign):
                    bound.append(node.targets[0].id)
                    self.assertTrue(is_plain(node.value, functions), (path, node.lineno))
                    self.assertTrue(holds_no_lists(node.value), (path, node.lineno))
                elif isinstance(node, ast.ImportFrom):
                    bound += [alias.name for alias in node.names]
                else:
                    self.assertIsInstance(node, (ast.FunctionDef, ast.ClassDef), (path, node.lineno))
                    bound.append(node.name)
                    if isinstance(node, ast.FunctionDef):
                        functions.add(node.name)
            self.assertEqual(len(bound), len(set(bound)), path)

    def test_a_call_by_itself(self):
        for path, tree in trees():
            for node in ast.walk(tree):
                if isinstance(node, ast.Expr) and node is not tree.body[0]:
                    self.assertIsInstance(node.value, ast.Call, (path, node.lineno))

    def test_classes(self):
        for path, tree in trees():
            for node in ast.walk(tree):
                if isinstance(node, ast.ClassDef):
                    self.assertEqual((node.decorator_list, node.keywords), ([], []))
                    self.assertIn(node, tree.body)
                    self.assertLessEqual(len(node.bases), 1)
                    self.assertTrue(all(isinstance(part, ast.FunctionDef) for part in node.body), path)

    def test_values_of_objects(self):
        methods, stored = set(), set()
        for path, tree in trees():
            for node in ast.walk(tree):
                if isinstance(node, ast.ClassDef):
                    methods |= {part.name for part in node.body}
                if isinstance(node, ast.Attribute) and isinstance(node.ctx, ast.Store):
                    stored.add(node.attr)
        self.assertEqual(stored & methods, set())
        self.assertEqual(stored & (NOT_VALUES | METHODS - set("count index find get join lower upper split strip copy".split())), set())

    def test_is_stands_beside_none_alone(self):
        for path, tree in trees():
            for node in ast.walk(tree):
                if isinstance(node, ast.Compare) and any(isinstance(sign, (ast.Is, ast.IsNot)) for sign in node.ops):
                    self.assertIsInstance(node.comparators[0], ast.Constant, (path, node.lineno))

    def test_keywords(self):
        for path, tree in trees():
            for node in ast.walk(tree):
                if isinstance(node, ast.Call) and node.keywords:
                    self.assertIsInstance(node.func, ast.Name, (path, node.lineno))
                    self.assertLessEqual({word.arg for word in node.keywords}, KEYWORDS[node.func.id])

    def test_names_that_are_not_used(self):
        for path, tree in trees():
            used = {node.id for node in ast.walk(tree) if isinstance(node, ast.Name)} | bound_names(tree)
            used |= {node.attr for node in ast.walk(tree) if isinstance(node, ast.Attribute)}
            self.assertEqual(used & NOT_NAMES, set(), path)
            self.assertTrue(all(name.isascii() for name in used), path)

    def test_no_annotations(self):
        for path, tree in trees():
            for node in ast.walk(tree):
                if isinstance(node, ast.arg):
                    self.assertIsNone(node.annotation, path)

    def test_walked_at_once(self):
        for path, tree in trees():
            above = parents(tree)
            for node in ast.walk(tree):
                if not isinstance(node, ast.Call):
                    continue
                walker = isinstance(node.func, ast.Name) and node.func.id in WALKERS
                view = isinstance(node.func, ast.Attribute) and node.func.attr in VIEWS
                if walker or view:
                    parent = above[node]
                    taken = isinstance(parent, ast.Call) and isinstance(parent.func, ast.Name)
                    self.assertTrue(
                        (isinstance(parent, (ast.For, ast.comprehension)) and parent.iter is node)
                        or (taken and parent.func.id in TAKE_WALKERS and parent.args[0] is node),
                        (path, node.lineno),
                    )

    def test_what_a_loop_walks_is_not_changed_in_it(self):
        changes = ("append", "clear", "extend", "insert", "pop", "remove", "reverse", "setdefault", "update")
        for path, tree in trees():
            for loop in ast.walk(tree):
                if not isinstance(loop, ast.For):
                    continue
                walked = ast.unparse(loop.iter)
                for node in ast.walk(loop):
                    if isinstance(node, ast.Call) and isinstance(node.func, ast.Attribute) and node.func.attr in changes:
                        self.assertNotEqual(ast.unparse(node.func.value), walked, (path, node.lineno))
                    if isinstance(node, ast.Subscript) and isinstance(node.ctx, ast.Store):
                        self.assertNotEqual(ast.unparse(node.value), walked, (path, node.lineno))

    def test_sets_and_errors_are_not_kept(self):
        for path, tree in trees():
            for node in ast.walk(tree):
                self.assertNotIsInstance(node, (ast.Set, ast.Try, ast.Raise), path)
                if isinstance(node, ast.Name):
                    self.assertNotIn(node.id, ("set", "frozenset"), path)


if __name__ == "__main__":
    unittest.main()
