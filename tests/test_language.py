"""The files of the package keep to the small part of Python that the project writes in.

Only what can be seen by name, by line or by the shape of the code is checked here.
"""

import ast
import builtins
import pathlib
import re
import unittest

PACKAGE = pathlib.Path(__file__).resolve().parent.parent / "formshift"

NODES = """Module Expr Constant ImportFrom alias FunctionDef arguments arg ClassDef Assign AnnAssign AugAssign If While For
Return Break Continue Pass Raise Try ExceptHandler Call keyword Lambda Name Load Store Attribute Subscript Slice List
Tuple Dict Set BinOp Add Sub Mult FloorDiv Mod Pow BitAnd BitOr BitXor LShift RShift UnaryOp USub UAdd Not Invert BoolOp And
Or Compare Eq NotEq Lt LtE Gt GtE Is IsNot In NotIn IfExp ListComp comprehension JoinedStr FormattedValue""".split()

BUILTINS = """len range enumerate zip min max sum abs sorted reversed int str bool list tuple dict set frozenset isinstance
ord repr any all divmod Exception ValueError TypeError KeyError IndexError LookupError ZeroDivisionError ArithmeticError
OverflowError RuntimeError NotImplementedError AttributeError StopIteration""".split()

METHODS = """append clear copy count endswith extend find get index insert isalnum isalpha isdigit islower isspace isupper
items join keys ljust lower lstrip partition pop remove replace reverse rfind rjust rpartition rsplit rstrip setdefault
split splitlines startswith strip update upper values zfill bit_length""".split()

WALKERS = "list tuple dict sorted sum any all enumerate zip min max".split()

# An object's own methods and values may be called as they like, but not by these names of Python's own.
OTHER_METHODS = set().union(*[dir(kind) for kind in (str, int, list, tuple, dict, set, bytes)]) - set(METHODS)
OTHER_METHODS -= {"add", "discard", "title", "__init__"}

WORDS = re.compile(
    r"\b(type|typing|typing_extensions|enum|Enum|IntEnum|StrEnum|Flag|IntFlag|Generic|Protocol|ABC|ABCMeta|namedtuple"
    r"|NamedTuple|TypedDict|TYPE_CHECKING|abstractmethod)\b|dataclass|overload|contextmanager"
)


def faults_of_lines(text):
    lines = text.split("\n")
    if len(lines) > 401:
        yield "more than 400 lines"
    for number, line in enumerate(lines, start=1):
        if len(line) > 120:
            yield f"line {number}: too long"
        if not re.fullmatch(r"[ -~]*", line):
            yield f"line {number}: a sign that is not allowed"
        if WORDS.search(line):
            yield f"line {number}: a word that is not allowed"


def faults_of_node(node):
    kind = type(node).__name__
    if kind not in NODES:
        yield kind
    if isinstance(node, ast.Constant) and type(node.value) not in (int, str, bool, type(None)):
        yield f"value {node.value!r}"
    if isinstance(node, ast.Constant) and isinstance(node.value, str) and "%" in node.value:
        yield "a text with a sign that is not allowed"
    if isinstance(node, ast.FunctionDef):
        yield from faults_of_function(node)
    if isinstance(node, ast.ClassDef) and (node.decorator_list or len(node.bases) > 1 or node.keywords):
        yield f"class {node.name}"
    if isinstance(node, ast.ImportFrom) and (
            node.level or not (node.module + ".").startswith(("formshift.", "__future__."))):
        yield f"import from {node.module}"
    if isinstance(node, ast.ListComp) and (len(node.generators) > 1 or len(node.generators[0].ifs) > 1):
        yield "a comprehension with more than one for or if"
    if isinstance(node, (ast.For, ast.While)) and node.orelse:
        yield "else behind a loop"
    if isinstance(node, ast.Assign) and len(node.targets) > 1:
        yield "more than one target"
    if isinstance(node, ast.Try) and node.finalbody:
        yield "finally"
    if isinstance(node, ast.BinOp) and isinstance(node.op, ast.Pow) and not isinstance(node.right, ast.Constant):
        yield "an exponent that is not written out"
    if isinstance(node, ast.Compare):
        yield from faults_of_comparison(node)
    if isinstance(node, ast.FormattedValue) and (node.format_spec or not isinstance(node.value, ast.Name)):
        yield "more than a name within an f-string's braces"
    if isinstance(node, ast.Attribute) and node.attr in OTHER_METHODS:
        yield f"method {node.attr}"
    yield from faults_of_name(node)


def faults_of_function(node):
    given = node.args
    if node.end_lineno - node.lineno >= 40:
        yield f"def {node.name} is too long"
    if node.decorator_list or given.vararg or given.kwarg or given.kwonlyargs or given.posonlyargs:
        yield f"def {node.name} is not plain"
    for arg in given.args:
        if hasattr(builtins, arg.arg) or arg.arg.startswith("_"):
            yield f"parameter {arg.arg}"


def faults_of_name(node):
    if not isinstance(node, ast.Name):
        return
    if node.id.startswith("_") and node.id not in ("__all__", "__version__"):
        yield f"name {node.id}"
    if hasattr(builtins, node.id) and (node.id not in BUILTINS or not isinstance(node.ctx, ast.Load)):
        yield f"name {node.id}"


def faults_of_comparison(node):
    for operator, compared in zip(node.ops, node.comparators):
        plain = isinstance(compared, ast.Constant) and (compared.value is None or isinstance(compared.value, bool))
        if isinstance(operator, (ast.Is, ast.IsNot)) and not plain:
            yield "is beside another value than None, True or False"


def is_walk(node):
    """Whether a call gives what is to be walked on the spot."""
    if not isinstance(node, ast.Call):
        return False
    if isinstance(node.func, ast.Attribute):
        return node.func.attr in ("items", "keys", "values")
    return isinstance(node.func, ast.Name) and node.func.id in ("zip", "enumerate", "reversed", "range")


def faults_of_walks(tree):
    """Walks that stand elsewhere than behind the in of a loop or first in a call that walks them at once."""
    walked = [node.iter for node in ast.walk(tree) if isinstance(node, (ast.For, ast.comprehension))]
    for node in ast.walk(tree):
        if isinstance(node, ast.Call) and isinstance(node.func, ast.Name) and node.func.id in WALKERS:
            walked.extend(node.args[:1])
    for node in ast.walk(tree):
        if is_walk(node) and node not in walked:
            yield f"line {node.lineno}: not walked on the spot"


def faults_of_scope(tree):
    """Parameters and locals that are called like an import, a class or a function of their file."""
    taken = [alias.name for node in tree.body if isinstance(node, ast.ImportFrom) for alias in node.names]
    taken += [node.name for node in tree.body if isinstance(node, (ast.ClassDef, ast.FunctionDef))]
    for function in tree.body:
        if isinstance(function, ast.FunctionDef):
            bound = [node.arg for node in ast.walk(function) if isinstance(node, ast.arg)]
            bound += [
                node.id for node in ast.walk(function) if isinstance(node, ast.Name) and isinstance(node.ctx, ast.Store)
            ]
            for name in bound:
                if name in taken:
                    yield f"def {function.name}: the name {name} is taken"


def faults_of(text):
    tree = ast.parse(text)
    found = list(faults_of_lines(text)) + list(faults_of_scope(tree)) + list(faults_of_walks(tree))
    for node in ast.walk(tree):
        found.extend(f"line {getattr(node, 'lineno', 0)}: {fault}" for fault in faults_of_node(node))
    return found


class Language(unittest.TestCase):
    def test_the_package_holds_its_files_alone(self):
        names = sorted(path.name for path in PACKAGE.iterdir() if path.name != "__pycache__")
        self.assertIn("__init__.py", names)
        self.assertEqual([name for name in names if not re.fullmatch(r"[a-z0-9_]+\.py", name)], [])

    def test_every_file_keeps_to_the_rules(self):
        for path in sorted(PACKAGE.glob("*.py")):
            with self.subTest(file=path.name):
                self.assertEqual(faults_of(path.read_text(encoding="utf-8")), [])

    def test_the_check_sees_faults(self):
        wrong = (
            "import os\n", "from os import path\n", "x = 1.5\n", "x = y = 1\n", "x = 3 / 2\n", "x = open\n",
            "def f(*a):\n    pass\n", "def f(id):\n    pass\n", "x = {k: 1 for k in []}\n", "_x = 1\n", "# type\n",
            "x = [].sort()\n", "x = (k for k in [])\n", "x = [1 for a in [] for b in []]\n", "#\t\n", "assert True\n",
            "for x in []:\n    pass\nelse:\n    pass\n", "class A(B, C):\n    pass\n", "#" * 121 + "\n", "x = b''\n",
            "x = 2 ** y\n", "x = y is z\n", "def f():\n    g = 1\n\n\ndef g():\n    pass\n",
            "from formshift.a import b\n\n\ndef f(b):\n    pass\n", "x = f'{y[0]}'\n", "x = f'{y:3}'\n",
            "x = range(3)\n", "x = dict(zip(y, range(3)))\n", "x = y.items()\n",
        )
        for text in wrong:
            with self.subTest(text=text):
                self.assertNotEqual(faults_of(text), [])


if __name__ == "__main__":
    unittest.main()
