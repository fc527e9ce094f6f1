"""More of the rules of the small part of Python that the package keeps to: what is walked, kept, raised and called."""

import ast
import builtins
import io
import pathlib
import re
import tokenize
import unittest

PACKAGE = pathlib.Path(__file__).resolve().parent.parent / "slackchain"

WALKED = {"zip", "enumerate", "reversed", "range"}
WALKED_METHODS = {"items", "keys", "values"}
WALKERS = {"list", "tuple", "dict", "sorted", "sum", "any", "all", "enumerate", "zip"}
CHANGING = {"append", "clear", "extend", "insert", "pop", "remove", "reverse", "setdefault", "update"}
READING = {"get", "items", "keys", "values", "index", "count"}
PYTHONS_OWN = {name for kind in (str, int, list, dict, set, bytes) for name in dir(kind)}
FREE_METHODS = {
    "add", "discard", "append", "clear", "copy", "count", "endswith", "extend", "find", "get", "index", "insert",
    "join", "lower", "pop", "remove", "replace", "reverse", "setdefault", "split", "startswith", "strip", "update",
    "upper", "__init__", "__eq__", "__repr__", "__str__", "__len__",
}
FREE_VALUES = {"count", "index", "title", "find", "get", "join", "lower", "upper", "split", "strip", "copy", "add"}
NEVER = {"register", "mro", "elements", "open", "input", "version_info", "with_traceback", "add_note", "args", "format"}


def parents(tree):
    told = {}
    for node in ast.walk(tree):
        for child in ast.iter_child_nodes(node):
            told[child] = node
    return told


def is_call(node, names):
    return isinstance(node, ast.Call) and isinstance(node.func, ast.Name) and node.func.id in names


def kept_walks(tree):
    """L23: what is to be walked on the spot, and is kept or handed on."""
    above = parents(tree)
    told = []
    for node in ast.walk(tree):
        method = (isinstance(node, ast.Call) and isinstance(node.func, ast.Attribute)
                  and node.func.attr in WALKED_METHODS)
        if not method and not is_call(node, WALKED):
            continue
        parent = above[node]
        fine = isinstance(parent, (ast.For, ast.comprehension)) and parent.iter is node
        fine = fine or is_call(parent, WALKERS) and node in parent.args
        fine = fine or is_call(parent, {"min", "max"}) and parent.args == [node]
        if not fine:
            told.append(ast.unparse(node))
    return told


def changed_walks(tree):
    """L23: loops that change what they walk."""
    told = []
    for loop in ast.walk(tree):
        if not isinstance(loop, ast.For):
            continue
        walked = {ast.unparse(node) for node in ast.walk(loop.iter) if isinstance(node, (ast.Name, ast.Attribute))}
        for node in [inner for row in loop.body for inner in ast.walk(row)]:
            if isinstance(node, ast.Call) and isinstance(node.func, ast.Attribute) and node.func.attr in CHANGING:
                if ast.unparse(node.func.value) in walked:
                    told.append(ast.unparse(node))
            if isinstance(node, ast.Subscript) and isinstance(node.ctx, ast.Store):
                if ast.unparse(node.value) in walked:
                    told.append(ast.unparse(node))
    return told


def top_names(tree):
    told = []
    for node in tree.body:
        if isinstance(node, ast.Assign):
            told.append(node.targets[0].id)
        elif isinstance(node, (ast.FunctionDef, ast.ClassDef)):
            told.append(node.name)
        elif isinstance(node, ast.ImportFrom):
            told.extend(one.asname or one.name for one in node.names)
    return told


def spoiled_tops(tree):
    """L15: names bound twice, lists and dicts of a file's top that hold such or are not only read."""
    told = [name for name in set(top_names(tree)) if top_names(tree).count(name) > 1]
    kept = {}
    for node in tree.body:
        if isinstance(node, ast.Assign) and isinstance(node.value, (ast.List, ast.Dict)):
            kept[node.targets[0].id] = True
            inner = [one for one in ast.walk(node.value) if one is not node.value]
            told.extend(ast.unparse(one) for one in inner if isinstance(one, (ast.List, ast.Dict)))
    above = parents(tree)
    for node in ast.walk(tree):
        if isinstance(node, ast.Name) and node.id in kept and isinstance(node.ctx, ast.Load):
            parent = above[node]
            fine = isinstance(parent, ast.Subscript) and isinstance(parent.ctx, ast.Load)
            fine = fine or isinstance(parent, ast.Attribute) and parent.attr in READING
            fine = fine or isinstance(parent, (ast.Compare, ast.For, ast.comprehension))
            fine = fine or is_call(parent, {"len", "list", "dict", "tuple", "sorted", "enumerate", "zip"})
            if not fine:
                told.append(ast.unparse(parent))
    told.extend(node.name for node in ast.walk(tree) if isinstance(node, ast.ClassDef) and node not in tree.body)
    return told


def handed_classes(tree, names):
    """L18: classes that are kept, handed on or shown."""
    above = parents(tree)
    told = []
    for node in ast.walk(tree):
        if not isinstance(node, ast.Name) or node.id not in names:
            continue
        parent = above[node]
        fine = isinstance(parent, ast.Call) and parent.func is node
        fine = fine or isinstance(parent, (ast.ClassDef, ast.ExceptHandler))
        fine = fine or is_call(parent, {"isinstance"})
        if isinstance(parent, ast.Tuple):
            fine = is_call(above[parent], {"isinstance"}) or isinstance(above[parent], ast.ExceptHandler)
        # A base's methods are called through it.
        fine = fine or isinstance(parent, ast.Attribute) and parent.attr == "__init__"
        if not fine:
            told.append(ast.unparse(parent))
    return told


def spoiled_errors(tree, errors):
    """L19: errors that are not made on the spot, or taken otherwise than by the program's own names."""
    told = []
    for node in ast.walk(tree):
        if isinstance(node, ast.Raise):
            if not is_call(node.exc, errors) or node.exc.keywords:
                told.append(ast.unparse(node))
        if isinstance(node, ast.ExceptHandler):
            if not isinstance(node.type, ast.Name) or node.type.id not in errors | {"KeyError", "ZeroDivisionError"}:
                told.append(ast.unparse(node))
    return told


def keywords_of_pythons_own(tree):
    """L22: keywords at names and methods of Python's own."""
    told = []
    for node in ast.walk(tree):
        if isinstance(node, ast.Call) and node.keywords:
            name = node.func.attr if isinstance(node.func, ast.Attribute) else node.func.id
            if hasattr(builtins, name) or name in PYTHONS_OWN:
                told.append(ast.unparse(node))
    return told


def handed_methods(tree, methods):
    """L25: methods and names of Python's own that are handed on and not called."""
    above = parents(tree)
    told = []
    for node in ast.walk(tree):
        if isinstance(node, ast.Attribute) and node.attr in methods:
            if not isinstance(above[node], ast.Call) or above[node].func is not node:
                told.append(ast.unparse(node))
        if isinstance(node, ast.Name) and hasattr(builtins, node.id):
            parent = above[node]
            called = isinstance(parent, ast.Call) and parent.func is node
            kind = is_call(parent, {"isinstance"}) or isinstance(parent, (ast.ClassDef, ast.ExceptHandler, ast.Tuple))
            if not called and not kind:
                told.append(ast.unparse(parent))
    return told


def spoiled_own_names(tree):
    """L26: methods and values called like those of Python's own texts, numbers, lists, dicts, sets and bytes."""
    told = []
    for node in ast.walk(tree):
        if isinstance(node, ast.ClassDef):
            names = [row.name for row in node.body if isinstance(row, ast.FunctionDef)]
            told.extend(name for name in names if name in PYTHONS_OWN - FREE_METHODS or name in NEVER)
            told.extend(name for name in set(names) if names.count(name) > 1)
        if isinstance(node, ast.Attribute) and isinstance(node.ctx, ast.Store):
            if node.attr in PYTHONS_OWN - FREE_VALUES or node.attr in NEVER or node.attr.startswith("_"):
                told.append(node.attr)
    return told


def spoiled_texts(text):
    """L27: a sign or an escape that a text may not have, a power without a written exponent, long numbers."""
    told = []
    for token in tokenize.generate_tokens(io.StringIO(text).readline):
        if token.type == tokenize.STRING or tokenize.tok_name[token.type].startswith("FSTRING"):
            if "%" in token.string or re.search(r"\\[^nt\\'\"]", token.string):
                told.append(token.string)
        if token.type == tokenize.NUMBER and len(token.string) > 900:
            told.append(token.string)
    for node in ast.walk(ast.parse(text)):
        if isinstance(node, ast.BinOp) and isinstance(node.op, ast.Pow) and not isinstance(node.right, ast.Constant):
            told.append(ast.unparse(node))
    return told


def spoiled_makers(tree):
    """L28: __init__ gives back nothing, not even by name."""
    told = []
    for node in ast.walk(tree):
        if isinstance(node, ast.FunctionDef) and node.name == "__init__":
            told.extend(ast.unparse(row) for row in ast.walk(node) if isinstance(row, ast.Return))
    return told


class Package(unittest.TestCase):
    def setUp(self):
        self.texts = {path.name: path.read_text(encoding="utf-8") for path in sorted(PACKAGE.glob("*.py"))}
        self.trees = {name: ast.parse(text) for name, text in self.texts.items()}
        self.classes = {node.name for tree in self.trees.values() for node in tree.body
                        if isinstance(node, ast.ClassDef)}
        self.errors = {node.name for node in self.trees["errors.py"].body if isinstance(node, ast.ClassDef)}
        self.methods = {row.name for tree in self.trees.values() for node in tree.body
                        if isinstance(node, ast.ClassDef) for row in node.body if isinstance(row, ast.FunctionDef)}

    def clean(self, check, *rest):
        for name, tree in self.trees.items():
            self.assertEqual(check(tree, *rest), [], name)

    def test_walked_at_once(self):
        self.clean(kept_walks)
        self.clean(changed_walks)

    def test_tops_of_files(self):
        self.clean(spoiled_tops)

    def test_classes(self):
        self.clean(handed_classes, self.classes)

    def test_errors(self):
        self.clean(spoiled_errors, self.errors)

    def test_calls(self):
        self.clean(keywords_of_pythons_own)
        self.clean(handed_methods, self.methods)

    def test_names_of_methods_and_values(self):
        self.clean(spoiled_own_names)

    def test_texts_and_numbers(self):
        for name, text in self.texts.items():
            self.assertEqual(spoiled_texts(text), [], name)

    def test_makers(self):
        self.clean(spoiled_makers)

    def test_no_sets(self):
        for name, tree in self.trees.items():
            for node in ast.walk(tree):
                self.assertNotIsInstance(node, (ast.Set, ast.SetComp), name)
                self.assertFalse(is_call(node, {"set", "frozenset"}), name)


class Found(unittest.TestCase):
    """The checks find what they are to find."""

    def spoiled(self, check, good, bad, *rest):
        for text in good:
            self.assertEqual(check(ast.parse(text), *rest), [], text)
        for text in bad:
            self.assertEqual(len(check(ast.parse(text), *rest)), 1, text)

    def test_walks(self):
        self.spoiled(kept_walks, ["for a in zip(b, c): pass", "a = [b for b in d.items()]", "a = sum(d.values())",
                                  "a = list(reversed(b))", "a = max(d.values())"],
                     ["a = zip(b, c)", "a = d.items()", "f(range(3))", "a = [range(3)]", "return_to(d.keys())"])
        self.spoiled(changed_walks, ["for a in b: c.append(a)", "for a in list(c): b[a] = 1"],
                     ["for a in b: b.append(a)", "for a in d.items(): d.pop(a)", "for a, b in enumerate(c): c[a] = b"])

    def test_tops(self):
        self.spoiled(spoiled_tops, ["A = [1]\nb = A[0]", "A = {'a': (1,)}\ndef f(x): return A.get(x)",
                                    "A = [1]\ndef f(x): return x in A", "A = [1]\ndef f(): return list(A)"],
                     ["A = 1\nA = 2", "A = [[1]]", "A = {'a': []}", "A = [1]\ndef f(): return A",
                      "A = [1]\ndef f(): A.append(1)", "A = [1]\ndef f(): A[0] = 1", "def f():\n    class C: pass"])

    def test_classes(self):
        names = {"C", "D"}
        self.spoiled(handed_classes, ["C()", "class D(C): pass", "isinstance(a, C)", "isinstance(a, (C, D))",
                                      "C.__init__(self, 1)", "try:\n    f()\nexcept C:\n    pass"],
                     ["a = C", "f(C)", "a = [C]", "a = (C, 1)", "return_to(C.name)"], names)

    def test_errors(self):
        self.spoiled(spoiled_errors, ["raise E('a')", "raise E('a', b)", "try:\n    f()\nexcept E as e:\n    pass"],
                     ["raise E", "raise e", "raise E(words='a')", "raise ValueError('a')",
                      "try:\n    f()\nexcept Exception:\n    pass", "try:\n    f()\nexcept:\n    pass"], {"E"})

    def test_calls(self):
        self.spoiled(keywords_of_pythons_own, ["f(a=1)", "b.shown(most=True)"],
                     ["int('1', base=2)", "a.split(sep=' ')", "str(object=1)"])
        self.spoiled(handed_methods, ["a.say(1)", "len(a)", "isinstance(a, int)", "a.name"],
                     ["f(a.say)", "b = a.say", "f(len)", "b = [len]"], {"say"})

    def test_names(self):
        self.spoiled(spoiled_own_names, ["class C:\n    def say(self): self.count = 1"],
                     ["class C:\n    def title(self): pass", "class C:\n    def say(self): self.items = 1",
                      "class C:\n    def say(self): pass\n    def say(self): pass", "a.sort = 1", "a.args = 1"])

    def test_texts(self):
        for text in ["a = 'b'\n", "a = 'b\\n'\n", "a = 2 ** 8\n", "a = b % c\n", "a = f'{b}'\n"]:
            self.assertEqual(spoiled_texts(text), [])
        for text in ["a = '%'\n", "a = '\\x41'\n", "a = 2 ** n\n", "a = f'%{b}'\n", "a = " + "1" * 901 + "\n"]:
            self.assertEqual(len(spoiled_texts(text)), 1, text)

    def test_makers(self):
        self.spoiled(spoiled_makers, ["class C:\n    def __init__(self): self.a = 1"],
                     ["class C:\n    def __init__(self): return None", "class C:\n    def __init__(self): return"])


if __name__ == "__main__":
    unittest.main()
