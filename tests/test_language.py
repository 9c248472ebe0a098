"""Holds the package to those rules of LANGUAGE.md that can be seen in its syntax."""

import ast
import builtins
import os
import re
import unittest

PACKAGE = "wirechannel"
ROOT = os.path.dirname(os.path.dirname(os.path.abspath(__file__)))
FOLDER = os.path.join(ROOT, PACKAGE)

PYTHON_NAMES = set(dir(builtins))
BUILTINS = set(
    "len range enumerate zip min max sum abs sorted reversed int str bool list tuple dict set frozenset isinstance"
    " ord repr any all divmod Exception ValueError TypeError KeyError IndexError LookupError ZeroDivisionError"
    " ArithmeticError OverflowError RuntimeError NotImplementedError StopIteration".split()
)
METHODS = set(
    "append clear copy count endswith extend find get index insert isalnum isalpha isdigit islower isspace isupper"
    " items join keys ljust lower lstrip partition pop remove replace reverse rfind rjust rpartition rsplit rstrip"
    " setdefault split splitlines startswith strip update upper values zfill bit_length".split()
)
SPECIAL = {"__init__", "__eq__", "__repr__", "__str__", "__len__"}
NO_NAMES = set(
    "register mro elements open input version_info with_traceback add_note attrgetter breakpoint builtins compile"
    " copyright credits delattr dir eval exec exit gc getattr globals hasattr help id importlib license locals"
    " methodcaller os quit setattr super type vars sys format format_map".split()
)
NO_WORDS = (
    r"\b(type|typing|typing_extensions|enum|Enum|IntEnum|StrEnum|Flag|IntFlag|Generic|Protocol|ABC|ABCMeta|namedtuple"
    r"|NamedTuple|TypedDict|TYPE_CHECKING|abstractmethod)\b|dataclass|overload|contextmanager"
)
LAZY = {"zip", "enumerate", "reversed", "range"}
LAZY_METHODS = {"items", "keys", "values"}
WALKERS = {"list", "tuple", "dict", "sorted", "sum", "any", "all", "enumerate", "zip", "min", "max"}

NODES = (
    ast.Module, ast.ImportFrom, ast.alias, ast.FunctionDef, ast.arguments, ast.arg, ast.ClassDef, ast.Lambda,
    ast.Assign, ast.AugAssign, ast.If, ast.While, ast.For, ast.Return, ast.Break, ast.Continue, ast.Pass, ast.Raise,
    ast.Try, ast.ExceptHandler, ast.Expr, ast.Constant, ast.List, ast.Tuple, ast.Dict, ast.Set, ast.BinOp, ast.BoolOp,
    ast.UnaryOp, ast.Compare, ast.IfExp, ast.Call, ast.keyword, ast.Attribute, ast.Subscript, ast.Slice, ast.ListComp,
    ast.comprehension, ast.JoinedStr, ast.FormattedValue, ast.Name, ast.expr_context, ast.boolop, ast.operator,
    ast.unaryop, ast.cmpop,
)


def is_plain(node):
    if isinstance(node, ast.Constant):
        return True
    if isinstance(node, ast.UnaryOp) and isinstance(node.op, ast.USub):
        return is_plain(node.operand)
    if isinstance(node, (ast.List, ast.Tuple)):
        return all(is_plain(member) for member in node.elts)
    if isinstance(node, ast.Dict):
        return all(is_plain(member) for member in node.keys + node.values)
    return False


def is_docstring(node):
    return isinstance(node, ast.Expr) and isinstance(node.value, ast.Constant) and isinstance(node.value.value, str)


def text_faults(text):
    for number, line in enumerate(text.split("\n"), 1):
        if len(line) > 120:
            yield number, "L10 line too long"
        if any(not " " <= sign <= "~" for sign in line):
            yield number, "L14 sign"
        if re.search(NO_WORDS, line):
            yield number, "L17 word"
    if text.count("\n") > 400:
        yield 0, "L10 file too long"


def top_faults(tree):
    for place, node in enumerate(tree.body):
        if isinstance(node, ast.Assign):
            if not is_plain(node.value):
                yield node.lineno, "L3 value"
        elif isinstance(node, ast.Expr):
            if place or not is_docstring(node):
                yield node.lineno, "L3 expression"
        elif not isinstance(node, (ast.ImportFrom, ast.FunctionDef, ast.ClassDef)):
            yield node.lineno, "L3 statement"
    bound = top_names(tree)
    if len(bound) != len(set(bound)):
        yield 0, "L15 bound twice"


def top_names(tree):
    names = []
    for node in tree.body:
        if isinstance(node, (ast.FunctionDef, ast.ClassDef)):
            names.append(node.name)
        elif isinstance(node, ast.Assign):
            names.extend(target.id for target in node.targets)
        elif isinstance(node, ast.ImportFrom):
            names.extend(alias.name for alias in node.names)
    return names


def def_faults(node):
    given = node.args
    if given.vararg or given.kwarg or given.kwonlyargs or given.posonlyargs or node.decorator_list:
        yield node.lineno, "L4"
    if not all(is_plain(default) for default in given.defaults):
        yield node.lineno, "L4 default"
    if node.end_lineno - node.lineno >= 40:
        yield node.lineno, "L10 function too long"
    if any(is_docstring(statement) for statement in node.body):
        yield node.lineno, "L6 a text by itself"


def class_faults(node):
    if len(node.bases) > 1 or node.keywords or node.decorator_list:
        yield node.lineno, "L5"
    for part in node.body:
        if not isinstance(part, (ast.FunctionDef, ast.Pass)):
            yield part.lineno, "L5 class body"


def name_faults(node, name, known):
    if name.startswith("_") and name not in SPECIAL:
        yield node.lineno, "L12 " + name
    if name in NO_NAMES:
        yield node.lineno, "L17 " + name
    if not known and name in PYTHON_NAMES and name not in BUILTINS:
        yield node.lineno, "L8 " + name


def binding_faults(node, name, tree):
    yield from name_faults(node, name, True)
    imports = [alias.name for row in tree.body if isinstance(row, ast.ImportFrom) for alias in row.names]
    classes = [row.name for row in tree.body if isinstance(row, ast.ClassDef)]
    if name in PYTHON_NAMES or name in imports + classes:
        yield node.lineno, "L15 " + name


def import_faults(node):
    if node.level or not node.module.startswith(PACKAGE + "."):
        yield node.lineno, "L2 module"
    if any(alias.name == "*" or alias.asname for alias in node.names):
        yield node.lineno, "L2 names"


def call_faults(node, parent, methods):
    called = node.func
    if isinstance(called, ast.Attribute):
        if called.attr not in METHODS and called.attr not in methods and called.attr != "__init__":
            yield node.lineno, "L25 " + called.attr
        lazy = called.attr in LAZY_METHODS
    else:
        lazy = isinstance(called, ast.Name) and called.id in LAZY
    walked = isinstance(parent, (ast.For, ast.comprehension)) or (
        isinstance(parent, ast.Call) and isinstance(parent.func, ast.Name) and parent.func.id in WALKERS
    )
    if lazy and not walked:
        yield node.lineno, "L23"


def set_faults(node, parent):
    if isinstance(node.func, ast.Name) and node.func.id in ("set", "frozenset"):
        within = isinstance(parent, ast.Call) and isinstance(parent.func, ast.Name) and parent.func.id in ("sorted", "len")
        if not within and not isinstance(parent, (ast.Compare, ast.BinOp)):
            yield node.lineno, "L24"


def node_faults(node, parent, tree, methods):
    if not isinstance(node, NODES):
        yield getattr(node, "lineno", 0), "L6 or L7 " + node.__class__.__name__
    elif isinstance(node, ast.ImportFrom):
        yield from import_faults(node)
    elif isinstance(node, ast.FunctionDef):
        yield from def_faults(node)
        yield from name_faults(node, node.name, False)
    elif isinstance(node, ast.ClassDef):
        yield from class_faults(node)
    elif isinstance(node, ast.Assign):
        yield from assign_faults(node)
    elif isinstance(node, ast.FormattedValue):
        if not isinstance(node.value, ast.Name) or node.format_spec or node.conversion not in (-1, ord("r")):
            yield node.lineno, "L7 f-string"
    elif isinstance(node, (ast.For, ast.While)) and node.orelse:
        yield node.lineno, "L6 else"
    elif isinstance(node, ast.Try) and node.finalbody:
        yield node.lineno, "L6 finally"
    elif isinstance(node, ast.ListComp) and len(node.generators) != 1:
        yield node.lineno, "L7 for"
    elif isinstance(node, ast.comprehension) and len(node.ifs) > 1:
        yield node.target.lineno, "L7 if"
    elif isinstance(node, ast.arg):
        yield from binding_faults(node, node.arg, tree)
    elif isinstance(node, ast.Name) and isinstance(node.ctx, ast.Store):
        yield from binding_faults(node, node.id, tree)
    elif isinstance(node, ast.Name):
        yield from name_faults(node, node.id, False)
    elif isinstance(node, ast.Attribute):
        yield from name_faults(node, node.attr, True)
    elif isinstance(node, ast.Call):
        yield from call_faults(node, parent, methods)
        yield from set_faults(node, parent)
    elif isinstance(node, ast.Constant) and (isinstance(node.value, (float, bytes, complex)) or node.value is ...):
        yield node.lineno, "L7 value"
    elif isinstance(node, ast.Constant) and isinstance(node.value, str) and "\x25" in node.value:
        yield node.lineno, "L27 sign in a text"
    elif isinstance(node, ast.BinOp) and isinstance(node.op, (ast.Div, ast.MatMult)):
        yield node.lineno, "L7 operator"
    elif isinstance(node, ast.Compare):
        yield from compare_faults(node)
    elif isinstance(node, ast.Expr) and not isinstance(node.value, ast.Call) and not is_docstring(node):
        yield node.lineno, "L6 expression"


def assign_faults(node):
    if len(node.targets) != 1:
        yield node.lineno, "L6 targets"
    root = node.targets[0]
    while isinstance(root, (ast.Attribute, ast.Subscript)):
        root = root.value
    if not isinstance(root, ast.Name):
        yield node.lineno, "L18 not through a name"


def compare_faults(node):
    sides = [node.left] + node.comparators
    for place, operator in enumerate(node.ops):
        if isinstance(operator, (ast.Is, ast.IsNot)):
            other = sides[place + 1]
            if not (isinstance(other, ast.Constant) and other.value in (None, True, False)):
                yield node.lineno, "L20"


def faults_of(text, methods=()):
    tree = ast.parse(text)
    faults = list(text_faults(text)) + list(top_faults(tree))
    faults.extend(node_faults(tree, None, tree, methods))
    for parent in ast.walk(tree):
        for node in ast.iter_child_nodes(parent):
            faults.extend(node_faults(node, parent, tree, methods))
    return faults


def package_texts():
    texts = {}
    for name in sorted(os.listdir(FOLDER)):
        if name != "__pycache__":
            with open(os.path.join(FOLDER, name), encoding="utf-8") as file:
                texts[name] = file.read()
    return texts


def own_methods(texts):
    return {
        part.name for text in texts.values() for node in ast.parse(text).body if isinstance(node, ast.ClassDef)
        for part in node.body if isinstance(part, ast.FunctionDef)
    }


class PackageTest(unittest.TestCase):
    def test_each_file_keeps_to_the_rules(self):
        texts = package_texts()
        for name, text in texts.items():
            with self.subTest(name):
                self.assertEqual(faults_of(text, own_methods(texts)), [])

    def test_only_plain_files_lie_in_the_package(self):
        self.assertIn("__init__.py", package_texts())
        for name in package_texts():
            self.assertTrue(re.fullmatch(r"[a-z0-9_]+\.py", name), name)
            self.assertFalse(name[:-3] in PYTHON_NAMES, name)

    def test_imports_are_drawn_from_where_they_are_defined(self):
        texts = package_texts()
        for name, text in texts.items():
            for node in ast.parse(text).body:
                if isinstance(node, ast.ImportFrom):
                    source = ast.parse(texts[node.module.split(".")[1] + ".py"])
                    source.body = [row for row in source.body if not isinstance(row, ast.ImportFrom)]
                    for alias in node.names:
                        self.assertIn(alias.name, top_names(source), name)

    def test_no_two_files_draw_from_one_another(self):
        drawn = {}
        for name, text in package_texts().items():
            rows = [node for node in ast.parse(text).body if isinstance(node, ast.ImportFrom)]
            drawn[name[:-3]] = [row.module.split(".")[1] for row in rows]
        while drawn:
            free = [name for name in drawn if not any(source in drawn for source in drawn[name])]
            self.assertNotEqual(free, [], drawn)
            for name in free:
                del drawn[name]


class CheckerTest(unittest.TestCase):
    def test_code_outside_the_rules_is_seen(self):
        for code in (
            "import os\n", "from os import path\n", "from wirechannel.errors import *\n", "x = len([])\n",
            "def f(*a):\n    pass\n", "def f(a=len):\n    pass\n", "class A(B, C):\n    pass\n",
            "class A:\n    x = 1\n", "def f():\n    global x\n", "def f():\n    assert True\n",
            "def f():\n    yield 1\n", "def f():\n    return {x for x in y}\n", "def f():\n    return 1.5\n",
            "def f():\n    return 1 / 2\n", "def f():\n    return map(1, 2)\n", "def f():\n    a = b = 1\n",
            "def f(len):\n    pass\n", "def f():\n    return x is y\n", "def f(xs):\n    xs.sort()\n",
            "def f():\n    return zip(1, 2)\n", "def f():\n    return set([])\n", "def f():\n    return chr(1)\n",
            "# a type\n", "def _f():\n    pass\n", "x = 1\nx = 2\n", "def f(*, a):\n    pass\n",
            "def f():\n    return (x for x in y)\n", "def f():\n    with x:\n        pass\n",
            "def f(x):\n    return f'{x.y}'\n", "def f(x):\n    return f'{x:3}'\n", "def f(x):\n    return f'{x!s}'\n",
            "def f(x):\n    g(x)[0] = 1\n", "def f(x):\n    g(x).y = 1\n", "def f(x):\n    a, b = x\n",
            "def f():\n" + "    x = 1\n" * 40, "x = '" + "a" * 120 + "'\n", "x = '\x25'\n", "x = 1  #\t\n",
        ):
            with self.subTest(code):
                self.assertNotEqual(faults_of(code), [])

    def test_code_within_the_rules_is_passed(self):
        code = (
            '"""Words."""\n\nfrom wirechannel.errors import BadText\n\nBOUND = 3\n\n\nclass Thing:\n'
            "    def __init__(self, parts):\n        self.parts = list(parts)\n\n\ndef f(xs, most=3):\n"
            "    for place, x in enumerate(xs):\n        if x is None:\n            raise BadText('words')\n"
            "    xs[most].parts = f'{most} of {xs!r}'\n"
            "    return sorted(set([x for x in xs if x > 0]))\n"
        )
        self.assertEqual(faults_of(code), [])


if __name__ == "__main__":
    unittest.main()
