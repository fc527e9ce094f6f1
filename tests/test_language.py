"""The package keeps to its small part of Python: a check of some of the rules (files, sizes, forms, imports, names)."""

import ast
import builtins
import pathlib
import re
import unittest

PACKAGE = pathlib.Path(__file__).resolve().parent.parent / "slackchain"

OWN_NAMES = set(
    "len range enumerate zip min max sum abs sorted reversed int str bool list tuple dict set frozenset isinstance"
    " ord repr any all divmod Exception ValueError TypeError KeyError IndexError LookupError ZeroDivisionError"
    " ArithmeticError OverflowError RuntimeError NotImplementedError AttributeError StopIteration".split()
)
METHODS = set(
    "append clear copy count endswith extend find get index insert isalnum isalpha isdigit islower isspace isupper"
    " items join keys ljust lower lstrip partition pop remove replace reverse rfind rjust rpartition rsplit rstrip"
    " setdefault split splitlines startswith strip update upper values zfill bit_length".split()
)
DUNDERS = {"__init__", "__eq__", "__repr__", "__str__", "__len__"}
NEVER = re.compile(
    r"\b(type|typing|typing_extensions|enum|Enum|IntEnum|StrEnum|Flag|IntFlag|Generic|Protocol|ABC|ABCMeta"
    r"|namedtuple|NamedTuple|TypedDict|TYPE_CHECKING|abstractmethod)\b|dataclass|overload|contextmanager"
)
NODES = (
    ast.Module, ast.ImportFrom, ast.alias, ast.FunctionDef, ast.ClassDef, ast.arguments, ast.arg,
    ast.Assign, ast.AugAssign, ast.If, ast.While, ast.For, ast.Return, ast.Break, ast.Continue, ast.Pass, ast.Raise,
    ast.Try, ast.ExceptHandler, ast.Expr,
    ast.Constant, ast.Name, ast.Attribute, ast.Subscript, ast.Slice, ast.Call, ast.keyword, ast.List, ast.Tuple,
    ast.Dict, ast.Set, ast.ListComp, ast.comprehension, ast.BinOp, ast.UnaryOp, ast.BoolOp, ast.Compare, ast.IfExp,
    ast.JoinedStr, ast.FormattedValue, ast.Lambda,
    ast.expr_context, ast.operator, ast.unaryop, ast.boolop, ast.cmpop,
)
FORBIDDEN = (ast.Div, ast.MatMult)


def sources():
    return [(path, path.read_text(encoding="utf-8")) for path in sorted(PACKAGE.glob("*.py"))]


def walked():
    for path, text in sources():
        tree = ast.parse(text)
        for node in ast.walk(tree):
            yield path.name, tree, node


def defined_methods():
    told = set()
    for name, tree, node in walked():
        if isinstance(node, ast.ClassDef):
            told.update(part.name for part in node.body if isinstance(part, ast.FunctionDef))
    return told


def spoiled_defaults(tree):
    """The defaults, of functions, methods and lambdas, that are other than a written number, text, truth or None."""
    told = []
    for node in ast.walk(tree):
        if isinstance(node, (ast.FunctionDef, ast.AsyncFunctionDef, ast.Lambda)):
            for default in node.args.defaults + [one for one in node.args.kw_defaults if one is not None]:
                value = default
                if isinstance(value, ast.UnaryOp) and isinstance(value.op, ast.USub):
                    value = value.operand
                    plain = isinstance(value, ast.Constant) and type(value.value) is int
                else:
                    plain = isinstance(value, ast.Constant) and type(value.value) in (int, str, bool, type(None))
                if not plain:
                    told.append(ast.unparse(default))
    return told


class Files(unittest.TestCase):
    def test_there_are_files(self):
        names = [path.name for path, text in sources()]
        for name in ["__init__.py", "errors.py", "ratios.py", "ties.py", "chains.py", "reach.py", "books.py",
                     "things.py", "shares.py", "changes.py", "texts.py", "desk.py"]:
            self.assertIn(name, names)

    def test_nothing_else_lies_in_the_package(self):
        for path in PACKAGE.iterdir():
            if path.name != "__pycache__":
                self.assertRegex(path.name, r"\A[a-z0-9_]+\.py\Z")

    def test_signs_and_sizes(self):
        for path, text in sources():
            with self.subTest(file=path.name):
                self.assertRegex(text, r"\A[ -~\n]*\Z")
                self.assertIsNone(NEVER.search(text))
                lines = text.split("\n")
                self.assertLessEqual(len(lines), 400)
                self.assertLessEqual(max(map(len, lines)), 120)


class Code(unittest.TestCase):
    def test_only_listed_forms(self):
        for name, tree, node in walked():
            where = (name, getattr(node, "lineno", None), ast.dump(node)[:80])
            self.assertIsInstance(node, NODES, where)
            self.assertNotIsInstance(node, FORBIDDEN, where)
            if isinstance(node, ast.Constant):
                self.assertIn(type(node.value), (int, str, bool, type(None)), where)
            if isinstance(node, ast.Assign):
                self.assertEqual(len(node.targets), 1, where)
            if isinstance(node, (ast.For, ast.While)):
                self.assertEqual(node.orelse, [], where)
            if isinstance(node, ast.Try):
                self.assertEqual(node.finalbody, [], where)
            if isinstance(node, ast.Expr):
                first = tree.body[0]
                self.assertTrue(isinstance(node.value, ast.Call) or node is first, where)

    def test_imports_are_the_packages_own_and_name_what_the_file_defines(self):
        trees = {path.stem: ast.parse(text) for path, text in sources()}
        for name, tree, node in walked():
            if isinstance(node, ast.ImportFrom):
                self.assertEqual(node.level, 0, name)
                self.assertIn(node, tree.body, name)
                package, stem = node.module.split(".")
                self.assertEqual(package, "slackchain", name)
                self.assertNotEqual(name, "__init__.py")
                made = [part.name for part in trees[stem].body if isinstance(part, (ast.FunctionDef, ast.ClassDef))]
                for part in trees[stem].body:
                    if isinstance(part, ast.Assign):
                        made.append(part.targets[0].id)
                for one in node.names:
                    self.assertIn(one.name, made, name)
                    self.assertIsNone(one.asname, name)

    def test_no_two_files_draw_from_one_another(self):
        drawn = {}
        for path, text in sources():
            rows = [node for node in ast.parse(text).body if isinstance(node, ast.ImportFrom)]
            drawn[path.stem] = {row.module.split(".")[1] for row in rows}
        while drawn:
            free = [stem for stem in drawn if not drawn[stem] & set(drawn)]
            self.assertNotEqual(free, [], drawn)
            for stem in free:
                drawn.pop(stem)

    def test_parameters_and_locals_are_called_unlike_classes_and_imports(self):
        for path, text in sources():
            tree = ast.parse(text)
            taken = {node.name for node in tree.body if isinstance(node, ast.ClassDef)}
            for node in tree.body:
                if isinstance(node, ast.ImportFrom):
                    taken.update(one.name for one in node.names)
            for node in ast.walk(tree):
                if isinstance(node, ast.arg):
                    self.assertNotIn(node.arg, taken, path.name)
                if isinstance(node, ast.Name) and isinstance(node.ctx, ast.Store):
                    self.assertNotIn(node.id, taken, path.name)

    def test_is_stands_beside_none_true_and_false_alone(self):
        for name, tree, node in walked():
            if isinstance(node, ast.Compare):
                for sign, right in zip(node.ops, node.comparators):
                    if isinstance(sign, (ast.Is, ast.IsNot)):
                        self.assertIsInstance(right, ast.Constant, (name, node.lineno))
                        self.assertIn(right.value, (None, True, False), (name, node.lineno))

    def test_functions(self):
        for name, tree, node in walked():
            if isinstance(node, ast.FunctionDef):
                where = (name, node.name)
                self.assertLessEqual(node.end_lineno - node.lineno + 1, 40, where)
                self.assertEqual(node.decorator_list, [], where)
                taken = node.args
                self.assertEqual((taken.vararg, taken.kwarg, taken.kwonlyargs, taken.posonlyargs),
                                 (None, None, [], []), where)
                for argument in taken.args:
                    self.assertIsNone(argument.annotation, where)
                    self.assertFalse(hasattr(builtins, argument.arg), where)
                self.assertTrue(node.name in DUNDERS or not node.name.startswith("_"), where)

    def test_defaults_are_plain_values(self):
        for path, text in sources():
            self.assertEqual(spoiled_defaults(ast.parse(text)), [], path.name)

    def test_spoiled_defaults_are_found(self):
        plain = ["1", "0", "-1", "''", "'a'", "True", "False", "None"]
        spoiled = ["()", "(1,)", "[]", "[1]", "{}", "{1}", "1.5", "-1.5", "b'a'", "...", "NAME", "f'a'", "list()",
                   "1 + 1", "-True", "not 1", "lambda: 1"]
        forms = ["def f(a=%s): pass", "class C:\n    def f(self, a, b=%s): pass", "f = lambda a=%s: a",
                 "def f():\n    def g(a=1, b=%s): pass", "def f(*, a=%s): pass"]
        for form in forms:
            for text in plain:
                self.assertEqual(spoiled_defaults(ast.parse(form % text)), [], text)
            for text in spoiled:
                self.assertEqual(spoiled_defaults(ast.parse(form % text)), [text], text)

    def test_names(self):
        for name, tree, node in walked():
            if isinstance(node, ast.Name):
                where = (name, node.lineno, node.id)
                self.assertFalse(node.id.startswith("_"), where)
                if hasattr(builtins, node.id):
                    self.assertIn(node.id, OWN_NAMES, where)
                    self.assertIsInstance(node.ctx, ast.Load, where)

    def test_methods_are_listed_or_the_programs_own(self):
        listed = METHODS | DUNDERS | defined_methods()
        for name, tree, node in walked():
            if isinstance(node, ast.Call) and isinstance(node.func, ast.Attribute):
                self.assertIn(node.func.attr, listed, (name, node.lineno))

    def test_no_name_is_both_a_method_and_a_value(self):
        values = set()
        for name, tree, node in walked():
            if isinstance(node, ast.Attribute) and isinstance(node.ctx, ast.Store):
                values.add(node.attr)
        self.assertEqual(values & defined_methods(), set())


if __name__ == "__main__":
    unittest.main()
