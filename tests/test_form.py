"""Some of the rules of the package's form, by their numbers (L1 to L28); not all of them."""

import ast
import builtins
import pathlib
import re
import unittest

PACKAGE = pathlib.Path(__file__).resolve().parent.parent / "tenreckon"

NODES = set("""
Module FunctionDef ClassDef arguments arg Lambda Return Assign AugAssign For While If Raise Try ExceptHandler
ImportFrom alias Expr Pass Break Continue BoolOp And Or BinOp Add Sub Mult FloorDiv Mod Pow LShift RShift BitOr BitXor
BitAnd UnaryOp Invert Not UAdd USub IfExp Dict Set ListComp comprehension Compare Eq NotEq Lt LtE Gt GtE Is IsNot In
NotIn Call keyword JoinedStr FormattedValue Constant Attribute Subscript Slice Name List Tuple Load Store
""".split())

OWN_OF_PYTHON = set("""
len range enumerate zip min max sum abs sorted reversed int str bool list tuple dict set frozenset isinstance ord repr
any all divmod Exception ValueError TypeError KeyError IndexError LookupError ZeroDivisionError ArithmeticError
OverflowError RuntimeError NotImplementedError AttributeError StopIteration
""".split())

METHODS = set("""
append clear copy count endswith extend find get index insert isalnum isalpha isdigit islower isspace isupper items
join keys ljust lower lstrip partition pop remove replace reverse rfind rjust rpartition rsplit rstrip setdefault split
splitlines startswith strip update upper values zfill bit_length
""".split())

TWO_UNDERSCORES = {"__init__", "__eq__", "__repr__", "__str__", "__len__"}

UNUSED = set("""
register mro elements open input version_info with_traceback add_note format format_map attrgetter breakpoint builtins
compile copyright credits delattr dir eval exec exit gc getattr globals hasattr help id importlib license locals
methodcaller os quit setattr super type vars sys
""".split())

WORDS = re.compile(
    r"\b(type|typing|typing_extensions|enum|Enum|IntEnum|StrEnum|Flag|IntFlag|Generic|Protocol|ABC|ABCMeta|namedtuple"
    r"|NamedTuple|TypedDict|TYPE_CHECKING|abstractmethod)\b|dataclass|overload|contextmanager")


def faults_of_rows(source):
    rows = source.split("\n")
    faults = ["L10 file"] if len(source.splitlines()) > 400 else []
    faults += [f"L10 row {k}" for k, row in enumerate(rows, 1) if len(row) > 120]
    faults += [f"L14 row {k}" for k, row in enumerate(rows, 1) if not re.fullmatch("[ -~]*", row)]
    return faults + [f"L17 row {k}" for k, row in enumerate(rows, 1) if WORDS.search(row)]


def faults_of_top(tree):
    faults = []
    bound = []
    for number, node in enumerate(tree.body):
        docstring = number == 0 and isinstance(node, ast.Expr) and isinstance(node.value, ast.Constant)
        if isinstance(node, (ast.FunctionDef, ast.ClassDef)):
            bound.append(node.name)
        elif isinstance(node, ast.Assign) and isinstance(node.targets[0], ast.Name):
            bound.append(node.targets[0].id)
        elif isinstance(node, ast.ImportFrom):
            bound.extend(alias.name for alias in node.names)
        elif not docstring:
            faults.append(f"L3 row {node.lineno}")
    return faults + [f"L15 {name}" for name in set(bound) if bound.count(name) > 1]


def faults_of_node(node):
    if type(node).__name__ not in NODES:
        return ["L6 L7"]
    if isinstance(node, ast.Expr) and not isinstance(node.value, (ast.Call, ast.Constant)):
        return ["L6"]
    if isinstance(node, ast.Constant) and not isinstance(node.value, (int, str, type(None))):
        return ["L7"]
    if isinstance(node, ast.Assign) and (len(node.targets) > 1 or isinstance(node.targets[0], ast.Tuple)):
        return ["L6"]
    if isinstance(node, (ast.For, ast.While)) and node.orelse or isinstance(node, ast.Try) and node.finalbody:
        return ["L6"]
    if isinstance(node, ast.arguments) and (node.vararg or node.kwarg or node.kwonlyargs or node.posonlyargs):
        return ["L4"]
    if isinstance(node, (ast.Is, ast.IsNot)):
        return []
    if isinstance(node, ast.Compare) and any(isinstance(op, (ast.Is, ast.IsNot)) for op in node.ops):
        beside = [node.left] + node.comparators
        values = [part.value for part in beside if isinstance(part, ast.Constant)]
        return [] if any(value is None or isinstance(value, bool) for value in values) else ["L20"]
    return faults_of_power(node)


def faults_of_power(node):
    if not isinstance(getattr(node, "op", None), ast.Pow):
        return []
    exponent = node.value if isinstance(node, ast.AugAssign) else node.right
    written = isinstance(exponent, ast.Constant) and type(exponent.value) is int
    return [] if written and exponent.value <= 64 else ["L27"]


def faults_of_defs(node):
    faults = []
    if isinstance(node, (ast.FunctionDef, ast.ClassDef)) and node.decorator_list:
        faults.append("L4 L5")
    if isinstance(node, ast.FunctionDef) and node.end_lineno - node.lineno + 1 > 40:
        faults.append("L10")
    if isinstance(node, ast.ClassDef):
        plain = all(isinstance(part, (ast.FunctionDef, ast.Pass)) for part in node.body)
        faults += [] if plain and len(node.bases) <= 1 and not node.keywords else ["L5"]
    if isinstance(node, ast.ImportFrom):
        own = re.fullmatch(r"tenreckon\.[a-z0-9_]+", node.module or "") and node.level == 0
        faults += [] if own and all(a.name != "*" and a.asname is None for a in node.names) else ["L2"]
    if isinstance(node, ast.ExceptHandler):
        caught = node.type.id if isinstance(node.type, ast.Name) else ""
        faults += ["L19"] if caught in ("", "Exception", "TypeError") else []
    return faults


def faults_of_names(node, methods):
    faults = []
    for name in [getattr(node, field, None) for field in ("id", "attr", "arg", "name")]:
        if isinstance(name, str) and name not in TWO_UNDERSCORES:
            faults += [] if re.fullmatch("[A-Za-z][A-Za-z0-9_]*", name) else ["L12"]
            faults += ["L17"] if name in UNUSED else []
    if isinstance(node, ast.Name) and isinstance(node.ctx, ast.Load) and hasattr(builtins, node.id):
        faults += [] if node.id in OWN_OF_PYTHON else ["L8"]
    bound = node.arg if isinstance(node, ast.arg) else node.id if isinstance(node, ast.Name) else ""
    if hasattr(builtins, bound) and not (isinstance(node, ast.Name) and isinstance(node.ctx, ast.Load)):
        faults.append("L15")
    if isinstance(node, ast.Call) and isinstance(node.func, ast.Attribute):
        faults += [] if node.func.attr in METHODS | TWO_UNDERSCORES | methods else ["L25"]
    return faults


def methods_of(trees):
    classes = [node for tree in trees for node in tree.body if isinstance(node, ast.ClassDef)]
    return {part.name for found in classes for part in found.body if isinstance(part, ast.FunctionDef)}


def values_of(trees):
    nodes = [node for tree in trees for node in ast.walk(tree)]
    return {node.attr for node in nodes if isinstance(node, ast.Attribute) and isinstance(node.ctx, ast.Store)}


def faults_of(source, methods=frozenset()):
    tree = ast.parse(source)
    faults = faults_of_rows(source) + faults_of_top(tree)
    for node in ast.walk(tree):
        found = faults_of_node(node) + faults_of_defs(node) + faults_of_names(node, methods)
        faults += [f"{fault} row {getattr(node, 'lineno', '?')}" for fault in found]
    return faults


def locals_of(tree):
    nodes = list(ast.walk(tree))
    inner = [node for top in tree.body if not isinstance(top, ast.Assign) for node in ast.walk(top)]
    stored = {node.id for node in inner if isinstance(node, ast.Name) and isinstance(node.ctx, ast.Store)}
    caught = {node.name for node in nodes if isinstance(node, ast.ExceptHandler) and node.name}
    return stored | caught | {node.arg for node in nodes if isinstance(node, ast.arg)}


def imported_by(tree):
    rows = [node for node in tree.body if isinstance(node, ast.ImportFrom)]
    return {(node.module.split(".")[1], alias.name) for node in rows for alias in node.names}


def bound_at_top(tree):
    named = [node.name for node in tree.body if isinstance(node, (ast.FunctionDef, ast.ClassDef))]
    return set(named) | {node.targets[0].id for node in tree.body if isinstance(node, ast.Assign)}


def drawn_from(tree):
    return {node.module.split(".")[1] for node in tree.body if isinstance(node, ast.ImportFrom)}


class FormTest(unittest.TestCase):
    def setUp(self):
        self.sources = {path.stem: path.read_bytes().decode("ascii") for path in PACKAGE.glob("*.py")}
        self.trees = {name: ast.parse(source) for name, source in self.sources.items()}

    def test_files(self):
        for path in PACKAGE.iterdir():
            if path.name != "__pycache__":
                self.assertTrue(path.is_file() and re.fullmatch(r"[a-z0-9_]+\.py", path.name), path)
        self.assertIn("__init__", self.sources)

    def test_each_file_keeps_to_the_form(self):
        methods = methods_of(self.trees.values())
        for name, source in self.sources.items():
            with self.subTest(name):
                self.assertEqual(faults_of(source, methods), [])

    def test_no_name_is_both_a_method_and_a_value(self):
        self.assertEqual(methods_of(self.trees.values()) & values_of(self.trees.values()), set())

    def test_no_local_is_called_like_a_class_or_an_import(self):
        for name, tree in self.trees.items():
            classes = {node.name for node in tree.body if isinstance(node, ast.ClassDef)}
            taken = classes | {imported for source, imported in imported_by(tree)}
            self.assertEqual(locals_of(tree) & taken, set(), name)

    def test_names_are_drawn_from_the_file_that_defines_them_and_are_used(self):
        for name, tree in self.trees.items():
            used = {node.id for node in ast.walk(tree) if isinstance(node, ast.Name)}
            for source, imported in imported_by(tree):
                self.assertIn(imported, bound_at_top(self.trees[source]), name)
                self.assertIn(imported, used, name)

    def test_no_two_files_draw_from_one_another(self):
        left = {name: drawn_from(tree) for name, tree in self.trees.items()}
        while left:
            free = [name for name in left if not left[name] & set(left)]
            self.assertTrue(free, left)
            left = {name: drawn for name, drawn in left.items() if name not in free}

    def test_the_check_sees_what_is_wrong(self):
        for source in (
                "import os\n", "from os import path\n", "from tenreckon.errors import *\n", "print(1)\n",
                "def f(*a):\n    return 1\n", "def f():\n    return 1 / 2\n", "def f():\n    return 1.5\n",
                "def f(a):\n    with a:\n        pass\n", "def f():\n    yield 1\n", "def f():\n    a = b = 1\n",
                "def f(a):\n    b, c = a\n", "def f(id):\n    return 1\n", "def f():\n    return hash(1)\n",
                "class A:\n    x = 1\n", "def f(a):\n    return a is 5\n", "def f(n):\n    return 2 ** n\n",
                "def f(a):\n    return a.title()\n", "# the type of it\n", "A = 1\nA = 2\n", "_a = 1\n", "#\t\n",
                "def f():\n    try:\n        pass\n    except Exception:\n        pass\n",
                "def f():\n" + "    a = 1\n" * 40, "#" * 121, "#\n" * 401,
                "@f\ndef g():\n    return 1\n", "def f():\n    assert True\n", "def f():\n    return b''\n"):
            self.assertNotEqual(faults_of(source), [], source)

    def test_the_check_lets_pass_what_is_right(self):
        self.assertEqual(faults_of("A = 1\n\n\ndef f(a):\n    return [b for b in a if b is None or b < A]\n"), [])

    def test_the_check_sees_an_exponent_that_is_not_written(self):
        for power in (
                "2 ** n", "10 ** n", "n ** n", "n ** -n", "10 ** (n + 1)", "10 ** max(n, 0)", "10 ** n.room",
                "10 ** n - 1", "-10 ** n", "5 * 10 ** n", "2 ** (1 + 1)", "10 ** -1", "10 ** 65", "10 ** 100",
                "2 ** True", "2 ** None", "2 ** '2'", "2 ** 3 ** 2", "[b ** n for b in n]", "n[2 ** n]",
                "n.count(10 ** n)", "lambda b: b ** n"):
            self.assertEqual(faults_of(f"def f(n):\n    return {power}\n"), ["L27 row 2"], power)
        for power in ("n", "-1", "65", "n + 1"):
            self.assertEqual(faults_of(f"def f(n):\n    n **= {power}\n"), ["L27 row 2"], power)
        self.assertEqual(faults_of("B = 10\nA = 10 ** B\n"), ["L27 row 2"])
        self.assertEqual(faults_of("def f(n, m=10 ** 65):\n    return n\n"), ["L27 row 1"])

    def test_the_check_lets_pass_a_written_exponent(self):
        for power in ("2 ** 0", "2 ** 1", "10 ** 60 - 1", "n ** 2", "n.room ** 63", "10 ** 64", "-2 ** 2"):
            self.assertEqual(faults_of(f"def f(n):\n    return {power}\n"), [], power)
        for power in ("0", "2", "64"):
            self.assertEqual(faults_of(f"def f(n):\n    n **= {power}\n"), [], power)


if __name__ == "__main__":
    unittest.main()
