"""The form of the package's files, as far as it can be seen with little effort; L1 to L28 by their numbers."""

import ast
import builtins
import io
import pathlib
import re
import tokenize
import unittest

PACKAGE = pathlib.Path(__file__).resolve().parent.parent / "menutree"

ERRORS = """Exception ValueError TypeError KeyError IndexError LookupError ZeroDivisionError ArithmeticError
OverflowError RuntimeError NotImplementedError AttributeError StopIteration""".split()
OWN_NAMES = ERRORS + """len range enumerate zip min max sum abs sorted reversed int str bool list tuple dict set frozenset
isinstance ord repr any all divmod object float bytes""".split()
METHODS = """append clear copy count endswith extend find get index insert isalnum isalpha isdigit islower isspace isupper
items join keys ljust lower lstrip partition pop remove replace reverse rfind rjust rpartition rsplit rstrip setdefault
split splitlines startswith strip update upper values zfill bit_length""".split()
OWN_METHODS = ["add", "discard", "title"]
TWO_UNDERSCORES = ["__init__", "__eq__", "__repr__", "__str__", "__len__"]
NOWHERE = """type typing typing_extensions enum Enum IntEnum StrEnum Flag IntFlag Generic Protocol ABC ABCMeta namedtuple
NamedTuple TypedDict TYPE_CHECKING abstractmethod""".split()
NOWHERE_WITHIN = ("dataclass", "overload", "contextmanager")
NO_NAMES = """register mro elements open input version_info with_traceback add_note attrgetter breakpoint builtins compile
copyright credits delattr dir eval exec exit gc getattr globals hasattr help id importlib license locals methodcaller os
quit setattr super type vars sys chr print format format_map""".split()
NO_VALUES = """items keys values pop update append clear extend insert remove reverse setdefault sort args encode
format""".split()
KEYWORDS = {"sorted": ("key", "reverse"), "min": ("key", "default"), "max": ("key", "default"), "sum": ("start",),
            "enumerate": ("start",), "zip": ("strict",)}
NO_FILES = ("test", "tests", "testing", "site", "conftest", "sitecustomize", "usercustomize")
WALKED = ("zip", "enumerate", "reversed", "range")

NODES = """Module Expr Constant ImportFrom alias FunctionDef arguments arg ClassDef Assign AugAssign AnnAssign If While For
Return Break Continue Pass Raise Try ExceptHandler Name Load Store Attribute Subscript Slice Call keyword List Tuple Dict
Set ListComp comprehension IfExp Lambda JoinedStr FormattedValue Compare BoolOp BinOp UnaryOp And Or Not USub UAdd Invert
Add Sub Mult FloorDiv Mod Pow BitAnd BitOr BitXor LShift RShift Eq NotEq Lt LtE Gt GtE Is IsNot In NotIn""".split()

PYTHONS_OWN = set()
for kind in (str, int, list, tuple, dict, set, frozenset, bytes):
    PYTHONS_OWN.update(dir(kind))


def check_signs(source):
    """L10, L14, L17, L27: signs, sizes and words."""
    lines = source.split("\n")
    if len(source.splitlines()) > 400:
        yield "L10", 401
    for number, line in enumerate(lines, 1):
        if len(line) > 120:
            yield "L10", number
        if re.search("[^ -~]", line):
            yield "L14", number
        if any(re.search(rf"\b{word}\b", line) for word in NOWHERE) or any(word in line for word in NOWHERE_WITHIN):
            yield "L17", number
    for token in tokenize.generate_tokens(io.StringIO(source).readline):
        if token.type == tokenize.STRING and re.search(r"%|\\[^nt\\'\"]", token.string):
            yield "L27", token.start[0]


def check_top(tree):
    """L2, L3, L16: what stands at a file's top, each name once."""
    bound = []
    for number, node in enumerate(tree.body):
        if isinstance(node, (ast.FunctionDef, ast.ClassDef)):
            bound.append(node.name)
        elif isinstance(node, ast.ImportFrom):
            bound.extend(alias.asname or alias.name for alias in node.names)
        elif isinstance(node, ast.Assign) and isinstance(node.targets[0], ast.Name):
            bound.append(node.targets[0].id)
            if not is_plain_value(node.value):
                yield "L3", node.lineno
        elif not (number == 0 and is_text(node)):
            yield "L3", node.lineno
    if len(set(bound)) < len(bound):
        yield "L15", 1


def check_locals(tree):
    """L15: no parameter and no local is called like a class or an import of its file."""
    taken = [node.name for node in tree.body if isinstance(node, ast.ClassDef)]
    for node in tree.body:
        if isinstance(node, ast.ImportFrom):
            taken.extend(alias.asname or alias.name for alias in node.names)
    for node in ast.walk(tree):
        name = node.arg if isinstance(node, ast.arg) else node.id if is_stored_name(node) else None
        if name in taken:
            yield "L15", node.lineno


def is_stored_name(node):
    return isinstance(node, ast.Name) and isinstance(node.ctx, ast.Store)


def is_text(node):
    return isinstance(node, ast.Expr) and isinstance(node.value, ast.Constant) and isinstance(node.value.value, str)


def is_plain_value(node, within=False):
    if isinstance(node, ast.Tuple):
        return all(is_plain_value(part, within) for part in node.elts)
    if isinstance(node, ast.List):
        return not within and all(is_plain_value(part, True) for part in node.elts)
    if isinstance(node, ast.Dict):
        return not within and all(part and is_plain_value(part, True) for part in node.keys + node.values)
    if isinstance(node, ast.UnaryOp):
        return isinstance(node.operand, ast.Constant)
    return isinstance(node, (ast.Constant, ast.Name))


def check_imports(node):
    """L2, L16: the package's own names alone, by their full files, at the top."""
    if isinstance(node, ast.Import):
        yield "L2", node.lineno
    if isinstance(node, ast.ImportFrom):
        if node.level or not re.fullmatch(r"menutree\.[a-z0-9_]+", node.module or ""):
            yield "L2", node.lineno
        if any(alias.name == "*" for alias in node.names) or node.col_offset:
            yield "L2", node.lineno


def check_defs(node):
    """L4, L5, L10, L18, L28: functions and classes."""
    if isinstance(node, ast.FunctionDef):
        if node.end_lineno - node.lineno + 1 > 40:
            yield "L10", node.lineno
        rest = node.args
        if node.decorator_list or rest.vararg or rest.kwarg or rest.kwonlyargs or rest.posonlyargs:
            yield "L4", node.lineno
        if node.name == "__init__" and any(isinstance(part, ast.Return) and part.value for part in ast.walk(node)):
            yield "L28", node.lineno
    if isinstance(node, ast.ClassDef):
        if node.decorator_list or node.keywords or len(node.bases) > 1 or node.col_offset:
            yield "L5", node.lineno
        if any(isinstance(base, ast.Name) and base.id in ("StopIteration", "AttributeError") for base in node.bases):
            yield "L18", node.lineno
        names = [part.name for part in node.body if isinstance(part, ast.FunctionDef)]
        others = [part for part in node.body if not isinstance(part, (ast.FunctionDef, ast.Pass)) and not is_text(part)]
        if others or len(set(names)) < len(names):
            yield "L5", node.lineno


def names_of(node):
    """Every name that a node says, and whether it is bound there."""
    if isinstance(node, ast.Name):
        yield node.id, isinstance(node.ctx, ast.Store)
    if isinstance(node, ast.arg):
        yield node.arg, True
    if isinstance(node, (ast.FunctionDef, ast.ClassDef)):
        yield node.name, not node.col_offset
    if isinstance(node, ast.alias):
        yield node.asname or node.name, True
    if isinstance(node, ast.ExceptHandler) and node.name:
        yield node.name, True


def check_names(node):
    """L8, L12, L15, L17: names."""
    for name, bound in names_of(node):
        if name in TWO_UNDERSCORES:
            continue
        if not re.fullmatch("[A-Za-z][A-Za-z0-9_]*", name):
            yield "L12", node.lineno
        if name in NO_NAMES:
            yield "L17", node.lineno
        if hasattr(builtins, name) and (bound or name not in OWN_NAMES):
            yield "L8", node.lineno


def check_attributes(node):
    """L8, L17, L25, L26: methods and values of objects."""
    if isinstance(node, ast.Attribute):
        name = node.attr
        if name.startswith("_") and name not in TWO_UNDERSCORES:
            yield "L12", node.lineno
        if name in ("register", "mro", "elements", "open", "input", "with_traceback", "add_note", "format", "format_map"):
            yield "L17", node.lineno
        if name in PYTHONS_OWN and name not in METHODS + OWN_METHODS + TWO_UNDERSCORES:
            yield "L25", node.lineno
        if isinstance(node.ctx, ast.Store) and name in NO_VALUES:
            yield "L26", node.lineno


def check_statements(node):
    """L6, L13, L19, L20, L21: statements and comparisons."""
    if type(node).__name__ not in NODES:
        yield "L6", getattr(node, "lineno", 0)
    if isinstance(node, (ast.For, ast.While)) and node.orelse:
        yield "L6", node.lineno
    if isinstance(node, ast.Try) and node.finalbody:
        yield "L6", node.lineno
    if isinstance(node, ast.Assign) and len(node.targets) > 1:
        yield "L6", node.lineno
    if isinstance(node, ast.ExceptHandler):
        if node.type is None or re.search(r"\b(Exception|TypeError)\b", ast.unparse(node.type)):
            yield "L19", node.lineno
    if isinstance(node, ast.Compare):
        for asked, other in zip(node.ops, node.comparators):
            sides = (node.left, other)
            plain = any(isinstance(side, ast.Constant) and side.value in (None, True, False) for side in sides)
            if isinstance(asked, (ast.Is, ast.IsNot)) and not plain:
                yield "L20", node.lineno


def check_values(node):
    """L7, L22, L24, L27: values and calls."""
    if isinstance(node, ast.Constant) and isinstance(node.value, (float, bytes, complex)):
        yield "L7", node.lineno
    if isinstance(node, ast.ListComp) and (len(node.generators) > 1 or len(node.generators[0].ifs) > 1):
        yield "L7", node.lineno
    if isinstance(node, ast.FormattedValue) and (not isinstance(node.value, ast.Name) or node.format_spec):
        yield "L7", node.lineno
    if isinstance(node, ast.BinOp) and isinstance(node.op, ast.Pow) and not isinstance(node.right, ast.Constant):
        yield "L27", node.lineno
    if isinstance(node, ast.Call):
        called = node.func.id if isinstance(node.func, ast.Name) else getattr(node.func, "attr", "")
        for keyword in node.keywords:
            if keyword.arg is None:
                yield "L7", node.lineno
            elif (hasattr(builtins, called) or called in METHODS) and keyword.arg not in KEYWORDS.get(called, ()):
                yield "L22", node.lineno


def is_walk(node):
    """Whether a node makes something that is walked on the spot."""
    if not isinstance(node, ast.Call):
        return False
    if isinstance(node.func, ast.Name):
        return node.func.id in WALKED
    return isinstance(node.func, ast.Attribute) and node.func.attr in ("items", "keys", "values")


def check_walks(node):
    """L23: what is walked on the spot is not kept or given back."""
    if isinstance(node, (ast.Assign, ast.Return)) and node.value is not None and is_walk(node.value):
        yield "L23", node.lineno


CHECKS = (check_imports, check_defs, check_names, check_attributes, check_statements, check_values, check_walks)


def complaints(source):
    """Pairs of a rule and a line, of all that is seen to break a rule."""
    tree = ast.parse(source)
    told = list(check_signs(source)) + list(check_top(tree)) + list(check_locals(tree))
    for node in ast.walk(tree):
        for check in CHECKS:
            told.extend(check(node))
    return told


def files():
    return sorted(path for path in PACKAGE.rglob("*") if "__pycache__" not in path.parts)


class Package(unittest.TestCase):
    def test_files(self):
        self.assertTrue((PACKAGE / "__init__.py").is_file())
        for path in files():
            self.assertTrue(path.is_file() and path.suffix == ".py", path)
            self.assertRegex(path.stem, "^([a-z][a-z0-9_]*|__init__|__main__)$")
            self.assertNotIn(path.stem, NO_FILES)
            self.assertFalse(path.stem.startswith("test_"), path)
            self.assertNotIn(path.stem, NOWHERE)
            self.assertFalse(hasattr(builtins, path.stem) and "_" not in path.stem, path)

    def test_every_file_keeps_the_rules(self):
        for path in files():
            with self.subTest(path.name):
                self.assertEqual(complaints(path.read_bytes().decode("utf-8")), [])

    def test_names_come_from_the_file_that_defines_them(self):
        for path in files():
            for node in ast.parse(path.read_text()).body:
                if isinstance(node, ast.ImportFrom):
                    source = ast.parse((PACKAGE / (node.module.split(".")[1] + ".py")).read_text())
                    here = [part.name for part in source.body if isinstance(part, (ast.FunctionDef, ast.ClassDef))]
                    here += [part.targets[0].id for part in source.body if isinstance(part, ast.Assign)]
                    for alias in node.names:
                        self.assertIn(alias.name, here, path)

    def test_no_name_is_a_method_and_a_value(self):
        methods, values = set(), set()
        for path in files():
            for node in ast.walk(ast.parse(path.read_text())):
                if isinstance(node, ast.ClassDef):
                    methods.update(part.name for part in node.body if isinstance(part, ast.FunctionDef))
                if isinstance(node, ast.Attribute) and isinstance(node.ctx, ast.Store):
                    values.add(node.attr)
        self.assertTrue({"say"} <= methods and {"row", "faults"} <= values)
        self.assertEqual(methods & values, set())
        self.assertEqual((methods - set(TWO_UNDERSCORES)) & PYTHONS_OWN, set())

    def test_no_two_files_draw_from_one_another(self):
        drawn = {}
        for path in files():
            rows = [node for node in ast.parse(path.read_text()).body if isinstance(node, ast.ImportFrom)]
            drawn[path.stem] = {row.module.split(".")[1] for row in rows}
        self.assertEqual(drawn["__init__"], set())
        while drawn:
            free = [name for name, sources in drawn.items() if not sources & set(drawn)]
            self.assertTrue(free, drawn)
            for name in free:
                drawn.pop(name)


class Checker(unittest.TestCase):
    """The check sees what it is there to see."""

    BROKEN = {
        "L2": ("import os", "from os import path", "from .errors import NoHouse", "from menutree.errors import *",
               "def f():\n    from menutree.errors import NoHouse"),
        "L3": ("print('x')", "A = len('x')", "A = [[1]]", "A = 1 + 2"),
        "L4": ("def f(*xs):\n    pass", "def f(a, *, b):\n    pass", "@g\ndef f():\n    pass"),
        "L5": ("class A:\n    b = 1", "class A(B, C):\n    pass"),
        "L6": ("def f():\n    with a as b:\n        pass", "def f():\n    del a", "def f():\n    a = b = 1",
               "def f():\n    for a in b:\n        pass\n    else:\n        pass", "def f():\n    return {a: 1 for a in b}",
               "def f():\n    yield 1", "def f():\n    assert a", "def f():\n    return 1 / 2",
               "def f():\n    return any(a for a in b)"),
        "L7": ("A = 1.5", "A = b'x'", "def f():\n    return [a for b in c for a in b]", "def f():\n    return f'{a.b}'"),
        "L8": ("def f():\n    return filter(a, b)", "def f(hash):\n    pass", "def f():\n    max = 1"),
        "L10": ("A = '" + "x" * 120 + "'", "A = 1\n" * 401, "def f():\n" + "    a = 1\n" * 40),
        "L12": ("def f(_a):\n    pass", "_A = 1", "def f(a):\n    return a._b"),
        "L14": ("A = '\u00e4'", "# \u00e4", "A = '\t'"),
        "L15": ("A = 1\nA = 2", "from menutree.words import code_of\n\n\ndef f(code_of):\n    pass",
                "class A:\n    pass\n\n\ndef f():\n    return [A for A in ()]"),
        "L17": ("# the type", "def f():\n    return getattr(a, 'b')", "# a dataclasses"),
        "L19": ("def f():\n    try:\n        a()\n    except Exception:\n        pass",),
        "L20": ("def f(a, b):\n    return a is b",),
        "L22": ("def f(a):\n    return a.split(' ', maxsplit=1)",),
        "L23": ("def f(a):\n    return a.items()", "def f(a):\n    b = zip(a, a)"),
        "L25": ("def f(a):\n    a.sort()", "def f(a):\n    return a.casefold()"),
        "L26": ("def f(a):\n    a.args = 1",),
        "L27": ("A = '%'", "A = '\\x41'", "def f(n):\n    return 2 ** n"),
        "L28": ("class A:\n    def __init__(self):\n        return None",),
    }

    def test_what_is_broken_is_told(self):
        for rule, sources in self.BROKEN.items():
            for source in sources:
                self.assertIn(rule, [told for told, line in complaints(source + "\n")], source[:60])
