"""Holds the package's files against a part of the rules of LANGUAGE.md: those that are plain to see in a syntax tree.

test_language_uses.py looks at how things are used: L13, L15, L18, L19, L20, L22, L23, L24, L25, L27, L28.
Not looked at by either: L11. Of the others some are looked at in part only; the rest is kept by reading.
"""

import ast
import builtins
import pathlib
import re
import unittest

PACKAGE = pathlib.Path(__file__).resolve().parent.parent / "lampcues"

NODES = """Module Expr Assign AugAssign If While For Return Break Continue Pass Raise Try ExceptHandler ImportFrom alias
    FunctionDef ClassDef arguments arg Lambda Name Attribute Subscript Slice Call keyword Constant JoinedStr
    FormattedValue List Tuple Dict Set ListComp comprehension BinOp UnaryOp BoolOp Compare IfExp Load Store
    Add Sub Mult FloorDiv Mod Pow LShift RShift BitOr BitXor BitAnd Invert USub UAdd Not And Or
    Eq NotEq Lt LtE Gt GtE Is IsNot In NotIn""".split()
OWN_NAMES = """len range enumerate zip min max sum abs sorted reversed int str bool list tuple dict set frozenset
    isinstance ord repr any all divmod Exception ValueError TypeError KeyError IndexError LookupError
    ZeroDivisionError ArithmeticError OverflowError RuntimeError NotImplementedError AttributeError
    StopIteration""".split()
METHODS = """append clear copy count endswith extend find get index insert isalnum isalpha isdigit islower isspace
    isupper items join keys ljust lower lstrip partition pop remove replace reverse rfind rjust rpartition rsplit
    rstrip setdefault split splitlines startswith strip update upper values zfill bit_length""".split()
DUNDERS = "__init__ __eq__ __repr__ __str__ __len__".split()
NO_WORDS = """type typing typing_extensions enum Enum IntEnum StrEnum Flag IntFlag Generic Protocol ABC ABCMeta
    namedtuple NamedTuple TypedDict TYPE_CHECKING abstractmethod""".split()
NO_PARTS = ("dataclass", "overload", "contextmanager")
NO_NAMES = """register mro elements open input version_info with_traceback add_note attrgetter breakpoint builtins
    compile copyright credits delattr dir eval exec exit gc getattr globals hasattr help id importlib license locals
    methodcaller os quit setattr super type vars sys chr print format format_map args encode""".split()
FOREIGN = [name for kind in (str, int, list, dict, set, bytes) for name in dir(kind) if not name.startswith("_")]


def faults_of_text(text):
    faults = []
    for row, line in enumerate(text.split("\n"), 1):
        if len(line) > 120:
            faults.append((row, "L10 long line"))
        if not all(" " <= sign <= "~" for sign in line):
            faults.append((row, "L14 sign"))
        for word in re.findall(r"\w+", line):
            if word in NO_WORDS or any(part in word for part in NO_PARTS):
                faults.append((row, "L17 word " + word))
    if text.count("\n") > 400:
        faults.append((401, "L10 long file"))
    return faults


def faults_of_top(tree):
    faults = []
    bound = []
    for place, node in enumerate(tree.body):
        docstring = place == 0 and isinstance(node, ast.Expr) and isinstance(node.value, ast.Constant)
        if not docstring and not isinstance(node, (ast.ImportFrom, ast.FunctionDef, ast.ClassDef, ast.Assign)):
            faults.append((node.lineno, "L3 top"))
        if isinstance(node, ast.Assign):
            plain = (ast.Constant, ast.List, ast.Tuple, ast.Dict, ast.Name, ast.Load, ast.UnaryOp, ast.USub)
            if not all(isinstance(inner, plain) for inner in ast.walk(node.value)):
                faults.append((node.lineno, "L3 value"))
            bound += [target.id for target in node.targets if isinstance(target, ast.Name)]
        elif isinstance(node, (ast.FunctionDef, ast.ClassDef)):
            bound.append(node.name)
        elif isinstance(node, ast.ImportFrom):
            bound += [alias.name for alias in node.names]
            if node.level or not (node.module or "").startswith("lampcues."):
                faults.append((node.lineno, "L2 import"))
            if any(alias.name == "*" or alias.asname for alias in node.names):
                faults.append((node.lineno, "L2 import"))
    if len(bound) != len(set(bound)):
        faults.append((1, "L15 bound twice"))
    return faults


def faults_of_def(node):
    faults = []
    spec = node.args
    if not isinstance(node, ast.Lambda):
        if node.end_lineno - node.lineno >= 40:
            faults.append((node.lineno, "L10 long function"))
        if node.decorator_list or node.returns:
            faults.append((node.lineno, "L4 decorator or annotation"))
        faults += faults_of_name(node.lineno, node.name, True)
    if spec.vararg or spec.kwarg or spec.kwonlyargs or spec.posonlyargs:
        faults.append((node.lineno, "L4 parameters"))
    for given in spec.args:
        faults += faults_of_name(node.lineno, given.arg, True)
        if given.annotation or given.arg in dir(builtins):
            faults.append((node.lineno, "L15 or L21 parameter " + given.arg))
    return faults


def faults_of_class(node):
    faults = []
    if len(node.bases) > 1 or node.keywords or node.decorator_list:
        faults.append((node.lineno, "L5 class"))
    for inner in node.body:
        if not isinstance(inner, (ast.FunctionDef, ast.Pass)):
            faults.append((inner.lineno, "L5 class body"))
    return faults


def faults_of_name(row, name, dotted):
    if name in NO_NAMES:
        return [(row, "L8 or L17 name " + name)]
    if name.startswith("_") and name not in DUNDERS:
        return [(row, "L12 name " + name)]
    if not dotted and hasattr(builtins, name) and name not in OWN_NAMES:
        return [(row, "L8 name " + name)]
    return []


def faults_of_node(node):
    row = getattr(node, "lineno", 0)
    if type(node).__name__ not in NODES:
        return [(row, "L6 or L7 " + type(node).__name__)]
    if isinstance(node, (ast.FunctionDef, ast.Lambda)):
        return faults_of_def(node)
    if isinstance(node, ast.ClassDef):
        return faults_of_class(node)
    if isinstance(node, ast.Name):
        faults = faults_of_name(row, node.id, False)
        if isinstance(node.ctx, ast.Store) and node.id in dir(builtins):
            faults.append((row, "L15 name " + node.id))
        return faults
    if isinstance(node, ast.Attribute):
        return faults_of_name(row, node.attr, True)
    if isinstance(node, ast.Constant):
        return faults_of_constant(row, node.value)
    return faults_of_form(row, node)


def faults_of_constant(row, value):
    if isinstance(value, str) and "%" in value:
        return [(row, "L27 sign in a text")]
    if value is not None and not isinstance(value, (int, str)):
        return [(row, "L7 value")]
    return []


def faults_of_form(row, node):
    faults = []
    if isinstance(node, ast.Assign):
        if len(node.targets) > 1 or not isinstance(node.targets[0], (ast.Name, ast.Attribute, ast.Subscript)):
            faults.append((row, "L6 targets"))
    if isinstance(node, (ast.For, ast.While)) and node.orelse:
        faults.append((row, "L6 else"))
    if isinstance(node, ast.Try) and (node.finalbody or any(one.type is None for one in node.handlers)):
        faults.append((row, "L6 try"))
    if isinstance(node, ast.ListComp) and (len(node.generators) > 1 or len(node.generators[0].ifs) > 1):
        faults.append((row, "L7 comprehension"))
    if isinstance(node, ast.FormattedValue) and not (isinstance(node.value, ast.Name) and node.format_spec is None):
        faults.append((row, "L7 f-string"))
    if isinstance(node, ast.Compare) and any(isinstance(sign, (ast.Is, ast.IsNot)) for sign in node.ops):
        if not all(isinstance(one, ast.Constant) for one in node.comparators):
            faults.append((row, "L20 is"))
    return faults


def faults_of_file(text):
    tree = ast.parse(text)
    faults = faults_of_text(text) + faults_of_top(tree)
    for node in ast.walk(tree):
        faults += faults_of_node(node)
        # The file's own docstring is the one thing that may stand by itself and is no call.
        if isinstance(node, ast.Expr) and node not in tree.body[:1] and not isinstance(node.value, ast.Call):
            faults.append((node.lineno, "L6 by itself"))
    return faults


def own_methods_and_values(trees):
    methods = []
    values = []
    for tree in trees:
        for node in ast.walk(tree):
            if isinstance(node, ast.ClassDef):
                methods += [inner.name for inner in node.body if isinstance(inner, ast.FunctionDef)]
            if isinstance(node, ast.Attribute) and isinstance(node.ctx, ast.Store):
                values.append(node.attr)
    return methods, values


class Rules(unittest.TestCase):
    def setUp(self):
        self.files = [path for path in sorted(PACKAGE.rglob("*")) if "__pycache__" not in path.parts]
        self.texts = {path.name: path.read_text(encoding="utf-8") for path in self.files}
        self.trees = {name: ast.parse(text) for name, text in self.texts.items()}

    def test_files(self):
        self.assertIn("__init__.py", self.texts)
        for path in self.files:
            self.assertEqual(path.parent, PACKAGE)
            self.assertRegex(path.name, r"\A([a-z][a-z0-9_]*|__init__|__main__)\.py\Z")
            self.assertNotIn(path.stem, dir(builtins) + NO_NAMES + NO_WORDS)

    def test_each_file(self):
        for name, text in self.texts.items():
            self.assertEqual(faults_of_file(text), [], name)

    def test_methods_and_values(self):
        methods, values = own_methods_and_values(self.trees.values())
        self.assertEqual(sorted(set(methods) & set(values)), [], "L18")
        self.assertEqual(sorted(set(methods) & set(FOREIGN) - set(METHODS) - {"add", "discard"}), [], "L26")
        free = {"count", "index", "title", "find", "get", "join", "lower", "upper", "split", "strip", "copy", "add"}
        self.assertEqual(sorted(set(values) & set(FOREIGN) - free), [], "L26")

    def test_methods_called(self):
        methods, values = own_methods_and_values(self.trees.values())
        for name, tree in self.trees.items():
            for node in ast.walk(tree):
                if isinstance(node, ast.Call) and isinstance(node.func, ast.Attribute):
                    self.assertIn(node.func.attr, METHODS + methods + DUNDERS, (name, node.lineno, "L25"))

    def test_imports_come_from_where_they_are_defined_and_never_in_a_ring(self):
        drawn = {}
        for name, tree in self.trees.items():
            rows = [node for node in tree.body if isinstance(node, ast.ImportFrom)]
            drawn[name] = [row.module.partition(".")[2] + ".py" for row in rows]
            for row, source in zip(rows, drawn[name]):
                defined = [node.name for node in self.trees[source].body if hasattr(node, "name")]
                defined += [node.targets[0].id for node in self.trees[source].body if isinstance(node, ast.Assign)]
                for alias in row.names:
                    self.assertIn(alias.name, defined, (name, "L16"))
        for name in drawn:
            seen = list(drawn[name])
            for source in seen:
                seen += [one for one in drawn[source] if one not in seen]
            self.assertNotIn(name, seen, "L16")


class TheRulesBite(unittest.TestCase):
    def test_faults_are_seen(self):
        for text in ("import os\n", "from .errors import NoText\n", "from lampcues.errors import *\n", "a = 1 + 1\n",
                     "a = 1\na = 2\n", "def f(*a):\n    pass\n", "def f(id):\n    pass\n", "def f():\n    a = b = 1\n",
                     "def f(x):\n    return x / 2\n", "def f():\n    return 1.5\n", "def f(x):\n    del x\n",
                     "def f():\n    with x:\n        pass\n", "def f():\n    return chr(1)\n", "# a type\n",
                     "def f(x):\n    return {a for a in x}\n", "def f(x):\n    return (a for a in x)\n", "#\ttab\n",
                     "def f(x):\n    return x is f\n", "def f():\n    return '%'\n", "class A:\n    b = 1\n",
                     "def f():\n    _a = 1\n", "def f():\n    print(1)\n", "def _f():\n    pass\n",
                     "#" * 121 + "\n", "def f():\n" + "    f()\n" * 40, "f()\n", "def f():\n    a, b = 1, 2\n",
                     "def f(x):\n    x + 1\n", "def f(x):\n    'words'\n    return x\n"):
            self.assertNotEqual(faults_of_file(text), [], text)

    def test_plain_code_is_let_through(self):
        text = "A = 3\n\n\ndef f(x, y=1):\n    z = [a for a in x if a > y]\n    return z if len(z) > A else None\n"
        self.assertEqual(faults_of_file(text), [])


if __name__ == "__main__":
    unittest.main()
