"""Holds the package's files against the rules of LANGUAGE.md on how things are used, beside test_language.py.

Looked at here: L13, L15, L18, L19, L20, L22, L23, L24, L25, L27, L28. Somewhat narrower than the rules: no ValueError,
LookupError or IndexError is taken at all, and of the methods with two underscores there is __init__ alone. Somewhat
wider too: a list that goes by two names, or a written keyword's worth, isn't followed up. That is kept by reading.
"""

import ast
import io
import re
import tokenize
import unittest

from test_language import METHODS, OWN_NAMES, PACKAGE

WALKED = ("zip", "enumerate", "reversed", "range")
VIEWS = ("items", "keys", "values")
WALKERS = ("list", "tuple", "dict", "sorted", "sum", "any", "all", "enumerate", "zip")
CHANGES = ("append", "clear", "extend", "insert", "pop", "remove", "reverse", "setdefault", "update")
KEYWORDS = {"sorted": ("key", "reverse"), "min": ("key", "default"), "max": ("key", "default"), "sum": ("start",),
            "enumerate": ("start",), "zip": ("strict",)}
KEYS = ("len", "int", "str", "abs", "sum", "min", "max", "tuple")
KINDS = ("int", "str", "bool", "list", "tuple", "dict")
ERRORS = [name for name in OWN_NAMES if name[0].isupper()]
READ = ("get", "index", "count", "copy", "items", "keys", "values", "startswith", "endswith", "join")
READERS = ("len", "sorted", "list", "dict", "tuple", "min", "max", "sum", "any", "all", "enumerate", "zip", "reversed")


class Tree:
    """A file's tree, with what stands around each node, and what its names mean."""

    def __init__(self, text, classes):
        self.text = text
        self.root = ast.parse(text)
        self.around = {}
        self.place = {}
        for node in ast.walk(self.root):
            for field, value in ast.iter_fields(node):
                for inner in value if isinstance(value, list) else [value]:
                    if isinstance(inner, ast.AST):
                        self.around[inner] = node
                        self.place[inner] = field
        drawn = [node for node in self.root.body if isinstance(node, ast.ImportFrom)]
        self.imports = [alias.name for node in drawn for alias in node.names]
        own = [node.name for node in self.root.body if isinstance(node, ast.ClassDef)]
        self.classes = own + [name for name in self.imports if name in classes]
        self.tops = {node.targets[0].id: node.value for node in self.root.body if isinstance(node, ast.Assign)}

    def nodes(self, *kinds):
        return [node for node in ast.walk(self.root) if isinstance(node, kinds)]

    def called(self, node):
        """The plain name that is called there, or None."""
        if isinstance(node, ast.Call) and isinstance(node.func, ast.Name):
            return node.func.id
        return None


def faults_of_l13(tree):
    faults = []
    for node in tree.nodes(ast.Set):
        wholes = [one for one in node.elts if isinstance(one, ast.Constant) and isinstance(one.value, int)]
        if len(wholes) > 2 and not isinstance(tree.around[node], ast.Compare):
            faults.append("L13 set")
    lambdas = [(node.lineno, ast.dump(node.args)) for node in tree.nodes(ast.Lambda)]
    return faults + ["L13 lambdas"] * (len(lambdas) - len(set(lambdas)))


def faults_of_l15(tree):
    faults = []
    bound = [node.arg for node in tree.nodes(ast.arg)]
    bound += [node.id for node in tree.nodes(ast.Name)
              if isinstance(node.ctx, ast.Store) and tree.around.get(tree.around[node]) is not None]
    bound += [node.name for node in tree.nodes(ast.ExceptHandler)]
    faults += ["L15 local " + name for name in bound if name in tree.classes + tree.imports]
    for name, value in tree.tops.items():
        inner = [node for node in ast.walk(value) if isinstance(node, (ast.List, ast.Dict)) and node is not value]
        if isinstance(value, (ast.List, ast.Dict)) and inner:
            faults.append("L15 list within " + name)
    return faults + [fault for node in tree.nodes(ast.Name) for fault in faults_of_top_use(tree, node)]


def faults_of_top_use(tree, node):
    value = tree.tops.get(node.id)
    around = tree.around[node]
    if not isinstance(value, (ast.List, ast.Dict)) or isinstance(node.ctx, ast.Store):
        return []
    if isinstance(around, ast.Subscript) and tree.place[node] == "value" and isinstance(around.ctx, ast.Load):
        return []
    if isinstance(around, (ast.Compare, ast.For, ast.comprehension)):
        return []
    if isinstance(around, ast.Attribute) and around.attr in READ:
        return []
    return [] if tree.called(around) in READERS else ["L15 use of " + node.id]


def faults_of_l18(tree):
    faults = []
    for node in tree.nodes(ast.Name):
        if node.id in tree.classes and isinstance(node.ctx, ast.Load) and not class_may_stand(tree, node):
            faults.append("L18 class " + node.id)
    for node in tree.nodes(ast.Attribute):
        if isinstance(node.ctx, ast.Store):
            if not isinstance(node.value, ast.Name) or node.value.id in tree.classes + list(tree.tops):
                faults.append("L18 value given")
    for node in tree.nodes(ast.ClassDef):
        methods = [inner.name for inner in node.body if isinstance(inner, ast.FunctionDef)]
        if len(methods) != len(set(methods)):
            faults.append("L18 method twice")
    return faults


def class_may_stand(tree, node):
    around = tree.around[node]
    if isinstance(around, ast.Tuple):
        node, around = around, tree.around[around]
    if isinstance(around, ast.Call):
        return tree.place[node] == "func" or tree.called(around) == "isinstance"
    if isinstance(around, ast.Attribute):
        return around.attr == "__init__" and isinstance(tree.around[around], ast.Call)
    return isinstance(around, (ast.ClassDef, ast.ExceptHandler))


def faults_of_l19(tree):
    faults = []
    for node in tree.nodes(ast.ExceptHandler):
        names = node.type.elts if isinstance(node.type, ast.Tuple) else [node.type]
        for name in names:
            if name.id not in tree.classes + ["KeyError", "ZeroDivisionError", "StopIteration"]:
                faults.append("L19 takes " + name.id)
    for node in tree.nodes(ast.Raise):
        if tree.called(node.exc) not in tree.classes + ERRORS:
            faults.append("L19 raise")
        handlers = [one.name for one in tree.nodes(ast.ExceptHandler) if node in list(ast.walk(one))]
        if isinstance(node.cause, ast.Name) and node.cause.id not in handlers:
            faults.append("L19 from")
    return faults


def faults_of_l20(tree):
    faults = []
    for node in tree.nodes(ast.Compare):
        for sign, right in zip(node.ops, node.comparators):
            if isinstance(sign, (ast.Is, ast.IsNot)):
                if not (isinstance(right, ast.Constant) and right.value in (None, True, False)):
                    faults.append("L20 is")
                elif type(right.value) is int:
                    faults.append("L20 is")
    return faults


def faults_of_l22(tree):
    faults = []
    for node in tree.nodes(ast.Name):
        if node.id in OWN_NAMES and node.id not in ERRORS and not own_may_stand(tree, node):
            faults.append("L22 kept " + node.id)
    for node in tree.nodes(ast.Call):
        name = tree.called(node)
        words = [word.arg for word in node.keywords]
        if name == "isinstance":
            second = node.args[1]
            kinds = second.elts if isinstance(second, ast.Tuple) else [second]
            if not all(isinstance(kind, ast.Name) and kind.id in list(KINDS) + tree.classes + ERRORS for kind in kinds):
                faults.append("L22 isinstance")
        if name in OWN_NAMES and any(word not in KEYWORDS.get(name, ()) for word in words):
            faults.append("L22 keyword")
        if isinstance(node.func, ast.Attribute) and node.func.attr in METHODS and words:
            faults.append("L22 keyword")
    return faults


def own_may_stand(tree, node):
    around = tree.around[node]
    if isinstance(around, ast.keyword):
        return around.arg == "key" and node.id in KEYS
    if isinstance(around, ast.Tuple):
        node, around = around, tree.around[around]
    return isinstance(around, ast.Call) and (tree.place[node] == "func" or tree.called(around) == "isinstance")


def is_walked(tree, node):
    """Whether the node is what is walked once only: zip, a dict's items and their like."""
    if tree.called(node) in WALKED:
        return True
    return isinstance(node, ast.Call) and isinstance(node.func, ast.Attribute) and node.func.attr in VIEWS


def faults_of_l23(tree):
    faults = []
    for node in tree.nodes(ast.Call):
        if is_walked(tree, node) and not walk_may_stand(tree, node):
            faults.append("L23 kept")
    for loop in tree.nodes(ast.For):
        walked = loop.iter
        while is_walked(tree, walked):
            walked = walked.func.value if isinstance(walked.func, ast.Attribute) else walked.args[0]
        if isinstance(walked, (ast.Name, ast.Attribute)) and is_changed(loop, ast.unparse(walked)):
            faults.append("L23 changed")
    return faults


def walk_may_stand(tree, node):
    around = tree.around[node]
    if isinstance(around, (ast.For, ast.comprehension)):
        return tree.place[node] == "iter"
    if not isinstance(around, ast.Call) or node not in around.args:
        return False
    if isinstance(around.func, ast.Attribute):
        return around.func.attr == "join" and isinstance(around.func.value, ast.Constant)
    name = tree.called(around)
    if name in ("min", "max"):
        return len(around.args) == 1
    return name == "zip" or (name in WALKERS and around.args[0] is node)


def is_changed(loop, written):
    for node in [inner for row in loop.body for inner in ast.walk(row)]:
        if isinstance(node, ast.Call) and isinstance(node.func, ast.Attribute):
            if node.func.attr in CHANGES and ast.unparse(node.func.value) == written:
                return True
        if isinstance(node, ast.Subscript) and isinstance(node.ctx, ast.Store) and ast.unparse(node.value) == written:
            return True
        if isinstance(node, ast.AugAssign) and ast.unparse(node.target) == written:
            return True
    return False


def faults_of_l24(tree):
    faults = []
    for node in tree.nodes(ast.Set, ast.Call):
        if isinstance(node, ast.Set) or tree.called(node) in ("set", "frozenset"):
            while isinstance(tree.around[node], ast.BinOp):
                node = tree.around[node]
            around = tree.around[node]
            straight = tree.called(around) in ("sorted", "len") and not around.keywords
            if not straight and not isinstance(around, ast.Compare):
                faults.append("L24 set")
    return faults


def faults_of_l25(tree):
    faults = []
    for node in tree.nodes(ast.Attribute):
        if node.attr in METHODS and isinstance(node.ctx, ast.Load) and tree.place[node] != "func":
            faults.append("L25 handed on " + node.attr)
    return faults


def faults_of_l27(tree):
    faults = []
    for node in tree.nodes(ast.BinOp):
        if isinstance(node.op, ast.Pow):
            if not (isinstance(node.right, ast.Constant) and node.right.value in range(65)):
                faults.append("L27 power")
    for token in tokenize.generate_tokens(io.StringIO(tree.text).readline):
        if token.type == tokenize.STRING and re.search(r"\\[^nt\\'\"]", token.string.replace("\\\\", "")):
            faults.append("L27 escape")
        if token.type == tokenize.NUMBER and len(token.string) > 900:
            faults.append("L27 number")
    return faults


def faults_of_l28(tree):
    faults = []
    for node in tree.nodes(ast.FunctionDef):
        if node.name.startswith("__") and node.name != "__init__":
            faults.append("L28 " + node.name)
        if node.name == "__init__" and any(isinstance(row, ast.Return) and row.value for row in ast.walk(node)):
            faults.append("L28 return")
    return faults


def faults_of(text, classes=()):
    tree = Tree(text, list(classes))
    faults = []
    for look in (faults_of_l13, faults_of_l15, faults_of_l18, faults_of_l19, faults_of_l20, faults_of_l22,
                 faults_of_l23, faults_of_l24, faults_of_l25, faults_of_l27, faults_of_l28):
        faults += look(tree)
    return faults


class Uses(unittest.TestCase):
    def test_each_file(self):
        texts = {path.name: path.read_text(encoding="utf-8") for path in sorted(PACKAGE.glob("*.py"))}
        self.assertGreater(len(texts), 1)
        nodes = [node for text in texts.values() for node in ast.parse(text).body]
        classes = [node.name for node in nodes if isinstance(node, ast.ClassDef)]
        self.assertEqual(len(classes), len(set(classes)))
        for name, text in texts.items():
            self.assertEqual(faults_of(text, classes), [], name)


class TheRulesBite(unittest.TestCase):
    def test_faults_are_seen(self):
        for rule, row in (
                ("L13", "x = {1, 2, 3}"), ("L13", "x = [lambda a: 1, lambda a: 2]"),
                ("L15", "NoText = 1"), ("L15", "x = [NoText for NoText in y]"), ("L15", "TOP.append(1)"),
                ("L15", "TOP[0] = 1"), ("L15", "return TOP"), ("L15", "x(TOP)"), ("L18", "x = NoText"),
                ("L18", "x(NoText)"), ("L18", "return [NoText]"), ("L18", "NoText.x = 1"), ("L18", "TOP.x = 1"),
                ("L19", "raise x"), ("L19", "raise NoText"), ("L19", "raise NoText('x') from x"),
                ("L19", "try:\n        x()\n    except ValueError:\n        pass"),
                ("L19", "try:\n        x()\n    except (NoText, Exception):\n        pass"),
                ("L20", "return x is y"), ("L20", "return x is not 1"), ("L20", "return x is 0"),
                ("L22", "x = len"), ("L22", "return isinstance(x, set)"), ("L22", "return isinstance(x, y)"),
                ("L22", "return int(x, base=2)"), ("L22", "return x.split(sep='a')"), ("L22", "x(sorted)"),
                ("L22", "return min(x, key=any)"), ("L23", "x = zip(y, y)"), ("L23", "x = y.items()"),
                ("L23", "return range(3)"), ("L23", "x(y.keys())"), ("L23", "return min(range(3), 1)"),
                ("L23", "for x in y:\n        y.append(x)"), ("L23", "for a, b in enumerate(y):\n        y[a] = b"),
                ("L23", "for x in reversed(self.y):\n        self.y.pop()"), ("L24", "x = set(y)"),
                ("L24", "for x in set(y):\n        pass"), ("L24", "x = set(y) | set(z)"), ("L24", "x({1})"),
                ("L25", "x = y.append"), ("L25", "x(y.get)"), ("L27", "return 2 ** x"), ("L27", "return 2 ** 65"),
                ("L27", "return '\\x41'"), ("L27", "return '\\r'")):
            text = "from lampcues.errors import NoText\n\nTOP = [1]\n\n\ndef f(y):\n    " + row + "\n"
            self.assertIn(rule, [fault[:3] for fault in faults_of(text, ["NoText"])], row)
        self.assertEqual(faults_of("TOP = [[1]]\n"), ["L15 list within TOP"])
        self.assertEqual(faults_of("def f(A):\n    pass\n\n\nclass A:\n    pass\n"), ["L15 local A"])
        self.assertEqual(faults_of("class A:\n    def __eq__(self, other):\n        return True\n"), ["L28 __eq__"])
        self.assertEqual(faults_of("class A:\n    def __init__(self):\n        return 1\n"), ["L28 return"])
        self.assertEqual(faults_of("class A:\n    def f(self):\n        pass\n\n    def f(self):\n        pass\n"),
                         ["L18 method twice"])

    def test_plain_code_is_let_through(self):
        for row in ("for a, b in enumerate(y):\n        x.append(b)", "x = sorted(set(y) | set(z))", "x = len(set(y))",
                    "x = [a for a in y.values()]", "x = list(y.items())", "x = ' '.join(y.keys())", "x = TOP[0]",
                    "x = list(TOP)", "raise NoText('x')", "return isinstance(y, (int, NoText))", "return y is not None",
                    "try:\n        x()\n    except NoText as e:\n        raise NoText('x', 1) from e", "return 10 ** 9",
                    "return sorted(y, key=len)", "return min(y, default=0)", "return '\\n'", "return y in {1, 2, 3}",
                    "while y:\n        y.pop()", "for x in list(y):\n        y.pop(x)", "return max(range(3))"):
            text = "from lampcues.errors import NoText\n\nTOP = [1]\n\n\ndef f(y):\n    " + row + "\n"
            self.assertEqual(faults_of(text, ["NoText"]), [], row)


if __name__ == "__main__":
    unittest.main()
