"""The package's files keep to the rules of their part of Python.

`faults` tells a list of (rule, file, line). It sees the rules that a look at
the written form can see plainly; it may pass what a reader would send back.
"""

import ast
import builtins
import pathlib
import re
import unittest

PACKAGE = "gainstream"
FOLDER = pathlib.Path(__file__).resolve().parent.parent / PACKAGE
FUNCTION_LINES, FILE_LINES, LINE_SIGNS = 40, 400, 120

OWN_NAMES = set("""len range enumerate zip min max sum abs sorted reversed int str bool list tuple dict set frozenset
    isinstance ord repr any all divmod Exception ValueError TypeError KeyError IndexError LookupError ZeroDivisionError
    ArithmeticError OverflowError RuntimeError NotImplementedError AttributeError StopIteration""".split())
METHODS = set("""append clear copy count endswith extend find get index insert isalnum isalpha isdigit islower isspace
    isupper items join keys ljust lower lstrip partition pop remove replace reverse rfind rjust rpartition rsplit rstrip
    setdefault split splitlines startswith strip update upper values zfill bit_length""".split())
TWO_UNDERSCORES = set("__init__ __eq__ __repr__ __str__ __len__".split())
KEYWORDS = {"sorted": "key reverse", "min": "key default", "max": "key default", "sum": "start",
            "enumerate": "start", "zip": "strict"}
WALKED_AT_ONCE = set("zip enumerate reversed range".split())
CHANGES = set("append clear extend insert pop remove reverse setdefault update".split())
NO_VALUES = set("""items keys values pop update append clear extend insert remove reverse setdefault sort args encode
    format""".split())
NO_NAMES = set("""register mro elements open input version_info with_traceback add_note attrgetter breakpoint builtins
    compile copyright credits delattr dir eval exec exit gc getattr globals hasattr help id importlib license locals
    methodcaller os quit setattr super type vars sys""".split())
NO_ATTRIBUTES = set("register mro elements open input version_info with_traceback add_note format format_map".split())
NO_WORDS = re.compile(r"\b(type|typing|typing_extensions|enum|Enum|IntEnum|StrEnum|Flag|IntFlag|Generic|Protocol|ABC"
                      r"|ABCMeta|namedtuple|NamedTuple|TypedDict|TYPE_CHECKING|abstractmethod)\b"
                      r"|dataclass|overload|contextmanager")
ESCAPE = re.compile(r"\\[^nt\\'\"\n]")

STATEMENTS = (ast.Assign, ast.AugAssign, ast.If, ast.While, ast.For, ast.Return, ast.Break, ast.Continue, ast.Pass,
              ast.Raise, ast.Try, ast.Expr, ast.FunctionDef, ast.ClassDef, ast.ImportFrom)
EXPRESSIONS = (ast.Constant, ast.Name, ast.List, ast.Tuple, ast.Dict, ast.Set, ast.BinOp, ast.UnaryOp, ast.BoolOp,
               ast.Compare, ast.IfExp, ast.Call, ast.Attribute, ast.Subscript, ast.Slice, ast.ListComp, ast.JoinedStr,
               ast.FormattedValue, ast.Lambda)


def is_docstring(node):
    return isinstance(node, ast.Expr) and isinstance(node.value, ast.Constant) and isinstance(node.value.value, str)


def form_faults(tree):
    for node in ast.walk(tree):
        line = getattr(node, "lineno", 1)
        if isinstance(node, ast.stmt) and not isinstance(node, STATEMENTS):
            yield "L6", line
        if isinstance(node, ast.expr) and not isinstance(node, EXPRESSIONS):
            yield "L7", line
        for rule in rules_broken(node):
            yield rule, line


def rules_broken(node):
    if isinstance(node, ast.FunctionDef):
        return function_rules(node)
    if isinstance(node, ast.ClassDef):
        return class_rules(node)
    if isinstance(node, ast.Call):
        return call_rules(node)
    if isinstance(node, ast.stmt):
        return statement_rules(node)
    return value_rules(node)


def function_rules(node):
    given = node.args
    if given.vararg or given.kwarg or given.kwonlyargs or given.posonlyargs or node.decorator_list:
        yield "L4"
    if any(isinstance(default, (ast.List, ast.Dict, ast.Set, ast.Call)) for default in given.defaults):
        yield "L4"
    if node.returns or any(one.annotation for one in given.args):
        yield "L21"
    if node.end_lineno - node.lineno + 1 > FUNCTION_LINES:
        yield "L10"
    if node.name.startswith("_") and node.name not in TWO_UNDERSCORES:
        yield "L12"
    if any(one.arg in dir(builtins) for one in given.args):
        yield "L15"
    if node.name == "__init__":
        if any(isinstance(inner, ast.Return) and inner.value for inner in ast.walk(node)):
            yield "L28"


def class_rules(node):
    if node.decorator_list or node.keywords or len(node.bases) > 1:
        yield "L5"
    if any(not isinstance(inner, (ast.FunctionDef, ast.Pass)) and not is_docstring(inner) for inner in node.body):
        yield "L5"
    names = [inner.name for inner in node.body if isinstance(inner, ast.FunctionDef)]
    if len(names) != len(set(names)):
        yield "L18"


def call_rules(node):
    called = node.func.id if isinstance(node.func, ast.Name) else None
    if called in OWN_NAMES:
        if any(one.arg not in KEYWORDS.get(called, "").split() for one in node.keywords):
            yield "L22"
    if any(one.arg is None for one in node.keywords):
        yield "L7"


def statement_rules(node):
    if isinstance(node, ast.Assign) and len(node.targets) > 1:
        yield "L6"
    if isinstance(node, (ast.For, ast.While)) and node.orelse:
        yield "L6"
    if isinstance(node, ast.Try) and (node.finalbody or any(one.type is None for one in node.handlers)):
        yield "L6"
    if isinstance(node, ast.Expr) and not isinstance(node.value, ast.Call) and not is_docstring(node):
        yield "L6"
    if isinstance(node, ast.Raise) and not isinstance(node.exc, ast.Call):
        yield "L19"
    if isinstance(node, ast.Assign) and isinstance(node.value, ast.Call):
        if isinstance(node.value.func, ast.Name) and node.value.func.id in WALKED_AT_ONCE:
            yield "L23"
        if isinstance(node.value.func, ast.Name) and node.value.func.id in ("set", "frozenset"):
            yield "L24"


def value_rules(node):
    if isinstance(node, ast.ExceptHandler) and isinstance(node.type, ast.Name):
        if node.type.id in ("Exception", "TypeError"):
            yield "L19"
    if isinstance(node, ast.Constant) and isinstance(node.value, (float, complex, bytes)):
        yield "L7"
    if isinstance(node, ast.Constant) and isinstance(node.value, str) and "%" in node.value:
        yield "L27"
    if isinstance(node, ast.BinOp) and isinstance(node.op, (ast.Div, ast.MatMult)):
        yield "L7"
    if isinstance(node, ast.BinOp) and isinstance(node.op, ast.Pow) and not isinstance(node.right, ast.Constant):
        yield "L27"
    if isinstance(node, ast.ListComp) and (len(node.generators) > 1 or len(node.generators[0].ifs) > 1):
        yield "L7"
    if isinstance(node, ast.FormattedValue) and (not isinstance(node.value, ast.Name) or node.format_spec):
        yield "L7"
    if isinstance(node, ast.Compare) and any(isinstance(sign, (ast.Is, ast.IsNot)) for sign in node.ops):
        if any(not isinstance(side, ast.Constant) or side.value not in (None, True, False)
               for side in node.comparators):
            yield "L20"
    if isinstance(node, ast.Name):
        yield from name_rules(node)
    if isinstance(node, ast.Attribute) and node.attr in NO_ATTRIBUTES:
        yield "L17"


def name_rules(node):
    if node.id in NO_NAMES:
        yield "L17"
    elif isinstance(node.ctx, ast.Store) and node.id in dir(builtins):
        yield "L15"
    elif node.id in dir(builtins) and node.id not in OWN_NAMES:
        yield "L8"
    if node.id.startswith("_"):
        yield "L12"


def top_faults(tree):
    bound = []
    for node in tree.body:
        names = []
        if isinstance(node, (ast.FunctionDef, ast.ClassDef)):
            names = [node.name]
        elif isinstance(node, ast.ImportFrom):
            names = [one.asname or one.name for one in node.names]
        elif isinstance(node, ast.Assign) and isinstance(node.targets[0], ast.Name):
            names = [node.targets[0].id]
            if any(isinstance(inner, (ast.Call, ast.Set)) for inner in ast.walk(node.value)):
                yield "L3", node.lineno
        elif not is_docstring(node):
            yield "L3", node.lineno
        for name in names:
            if name in bound:
                yield "L15", node.lineno
            bound.append(name)


def text_faults(source):
    rows = source.split("\n")
    if len(rows) - 1 > FILE_LINES:
        yield "L10", FILE_LINES
    for line, row in enumerate(rows, start=1):
        if len(row) > LINE_SIGNS or "\t" in row:
            yield "L10", line
        if any(not " " <= sign <= "~" for sign in row.replace("\t", " ")):
            yield "L14", line
        if NO_WORDS.search(row):
            yield "L17", line
        if ESCAPE.search(row):
            yield "L27", line


# What a file draws from, with the faults of its import rows.
def imports_of(tree, files):
    drawn, wrong = [], []
    for node in ast.walk(tree):
        if isinstance(node, ast.Import):
            wrong.append(("L16", node.lineno))
        if isinstance(node, ast.ImportFrom):
            module = (node.module or "").split(".")
            name = module[1] + ".py" if len(module) == 2 else ""
            defined = top_names(files[name]) if name in files else []
            if node.level or module[0] != PACKAGE or node not in tree.body:
                wrong.append(("L2", node.lineno))
            elif any(one.name not in defined for one in node.names):
                wrong.append(("L16", node.lineno))
            else:
                drawn.append(name)
    return drawn, wrong


def top_names(source):
    names = []
    for node in ast.parse(source).body:
        if isinstance(node, (ast.FunctionDef, ast.ClassDef)):
            names.append(node.name)
        if isinstance(node, ast.Assign) and isinstance(node.targets[0], ast.Name):
            names.append(node.targets[0].id)
    return names


def draws_from_itself(name, draws):
    seen, waiting = [], list(draws[name])
    while waiting:
        one = waiting.pop()
        if one not in seen:
            seen.append(one)
            waiting.extend(draws.get(one, []))
    return name in seen


# Methods and values of objects are held against one another over the whole package.
def class_names(trees):
    methods, values = [], []
    for tree in trees:
        for node in ast.walk(tree):
            if isinstance(node, ast.ClassDef):
                methods.extend([inner.name for inner in node.body if isinstance(inner, ast.FunctionDef)])
            if isinstance(node, ast.Attribute) and isinstance(node.ctx, ast.Store):
                values.append(node.attr)
    return methods, values


def attribute_faults(tree, methods, values):
    for node in ast.walk(tree):
        if isinstance(node, ast.ClassDef):
            for inner in node.body:
                if isinstance(inner, ast.FunctionDef) and inner.name in values:
                    yield "L18", inner.lineno
        if isinstance(node, ast.Attribute) and isinstance(node.ctx, ast.Store) and node.attr in NO_VALUES:
            yield "L26", node.lineno
        if isinstance(node, ast.Call) and isinstance(node.func, ast.Attribute):
            name = node.func.attr
            if name not in METHODS and name not in methods and name not in TWO_UNDERSCORES:
                yield "L25", node.lineno


# What is bound in a function: parameters and locals.
def bound_in(function):
    for node in ast.walk(function):
        if isinstance(node, ast.arg):
            yield node.arg, node.lineno
        if isinstance(node, ast.Name) and isinstance(node.ctx, ast.Store):
            yield node.id, node.lineno


def shadow_faults(tree):
    taken = [node.name for node in tree.body if isinstance(node, ast.ClassDef)]
    for node in tree.body:
        if isinstance(node, ast.ImportFrom):
            taken.extend([one.asname or one.name for one in node.names])
    for node in tree.body:
        if isinstance(node, (ast.FunctionDef, ast.ClassDef)):
            for name, line in bound_in(node):
                if name in taken:
                    yield "L15", line


# The spots where the name of a class may stand.
def class_spots(tree):
    for node in ast.walk(tree):
        if isinstance(node, ast.Call):
            yield node.func
            if isinstance(node.func, ast.Name) and node.func.id == "isinstance":
                yield from ast.walk(node.args[1])
        if isinstance(node, ast.ClassDef):
            yield from node.bases
        if isinstance(node, ast.ExceptHandler) and node.type:
            yield from ast.walk(node.type)
        if isinstance(node, ast.Attribute) and node.attr == "__init__":
            yield node.value


def class_faults(tree, classes):
    spots = [id(node) for node in class_spots(tree)]
    for node in ast.walk(tree):
        if isinstance(node, ast.Name) and node.id in classes and id(node) not in spots:
            yield "L18", node.lineno


# The things that a loop walks, itself or through enumerate, zip, items and their like.
def walked(node):
    if isinstance(node, ast.Call):
        inner = [node.func.value] if isinstance(node.func, ast.Attribute) else node.args
        return [text for one in inner for text in walked(one)]
    return [ast.unparse(node)]


def loop_faults(tree):
    for loop in ast.walk(tree):
        if isinstance(loop, ast.For) and not (isinstance(loop.iter, ast.Call) and isinstance(loop.iter.func, ast.Name)
                                              and loop.iter.func.id in ("list", "tuple", "range", "sorted")):
            texts = walked(loop.iter)
            for node in ast.walk(loop):
                if isinstance(node, ast.Subscript) and isinstance(node.ctx, ast.Store):
                    if ast.unparse(node.value) in texts:
                        yield "L23", node.lineno
                if isinstance(node, ast.Call) and isinstance(node.func, ast.Attribute) and node.func.attr in CHANGES:
                    if ast.unparse(node.func.value) in texts:
                        yield "L23", node.lineno


def name_of_file_is_plain(name):
    return re.fullmatch(r"[a-z][a-z0-9_]*\.py|__init__\.py|__main__\.py", name) and name[:-3] not in dir(builtins)


def faults(files):
    trees = {name: ast.parse(source) for name, source in files.items()}
    methods, values = class_names(trees.values())
    classes = [node.name for tree in trees.values() for node in tree.body if isinstance(node, ast.ClassDef)]
    found, draws = [], {}
    for name, tree in trees.items():
        draws[name], rows = imports_of(tree, files)
        rows.extend(form_faults(tree))
        rows.extend(top_faults(tree))
        rows.extend(text_faults(files[name]))
        rows.extend(attribute_faults(tree, methods, values))
        rows.extend(shadow_faults(tree))
        rows.extend(class_faults(tree, classes))
        rows.extend(loop_faults(tree))
        if not name_of_file_is_plain(name):
            rows.append(("L14", 1))
        found.extend([(rule, name, line) for rule, line in sorted(set(rows))])
    found.extend([("L16", name, 1) for name in draws if draws_from_itself(name, draws)])
    return found


# A rule, and a file that breaks it.
BROKEN = [
    ("L2", "from math import gcd\n"),
    ("L2", "def f():\n    from gainstream.other import g\n    return g()\n"),
    ("L2", "from .other import g\n"),
    ("L16", "import gainstream.other\n"),
    ("L16", "from gainstream.other import h\n"),
    ("L16", "from gainstream import other\n"),
    ("L3", "xs = list()\n"),
    ("L3", "for x in (1, 2):\n    pass\n"),
    ("L4", "def f(*xs):\n    return 1\n"),
    ("L4", "def f(**xs):\n    return 1\n"),
    ("L4", "def f(a, *, b):\n    return a\n"),
    ("L4", "def f(a=[]):\n    return a\n"),
    ("L5", "class A:\n    x = 1\n"),
    ("L6", "def f(a):\n    assert a\n"),
    ("L6", "def f():\n    a = b = 1\n    return a + b\n"),
    ("L6", "def f(a):\n    for b in a:\n        pass\n    else:\n        return 1\n"),
    ("L6", "def f(a):\n    a == 1\n"),
    ("L7", "def f(a):\n    return a / 2\n"),
    ("L7", "def f():\n    return 1.5\n"),
    ("L7", "def f(a):\n    return {b: 1 for b in a}\n"),
    ("L7", "def f(a):\n    return [b for c in a for b in c]\n"),
    ("L7", "def f(a):\n    return f'{a.b}'\n"),
    ("L8", "def f(a):\n    return map(f, a)\n"),
    ("L8", "def f(a):\n    print(a)\n"),
    ("L10", "def f():\n" + "    f()\n" * 40),
    ("L10", "x = 1\n" + "\n" * 400),
    ("L10", "x = " + "1 + " * 30 + "1\n"),
    ("L12", "def f(a):\n    _b = a\n    return 1\n"),
    ("L14", "# \u00fc\n"),
    ("L15", "x = 1\nx = 2\n"),
    ("L15", "def f(a):\n    hash = a\n    return 1\n"),
    ("L15", "class A:\n    pass\n\n\ndef f(A):\n    return 1\n"),
    ("L15", "from gainstream.other import g\n\n\ndef f(a):\n    g = a\n    return 1\n"),
    ("L17", "# a type\n"),
    ("L17", "def f(a):\n    return a.mro\n"),
    ("L18", "class A:\n    def f(self):\n        return 1\n\n    def f(self):\n        return 2\n"),
    ("L18", "class A:\n    def __init__(self):\n        self.f = 1\n\n    def f(self):\n        return 1\n"),
    ("L18", "class A:\n    pass\n\n\ndef f():\n    return [A]\n"),
    ("L19", "def f(a):\n    raise a\n"),
    ("L19", "def f(a):\n    try:\n        return f(a)\n    except TypeError:\n        return 1\n"),
    ("L20", "def f(a, b):\n    return a is b\n"),
    ("L21", "def f(a: int):\n    return a\n"),
    ("L22", "def f(a):\n    return int(a, base=3)\n"),
    ("L23", "def f(a):\n    b = range(a)\n    return b\n"),
    ("L23", "def f(a):\n    for b in a:\n        a.append(b)\n"),
    ("L23", "def f(a):\n    for b, c in a.items():\n        a[b] = 1\n"),
    ("L23", "def f(a, d):\n    for b, c in zip(d, a):\n        a[0] = 1\n"),
    ("L24", "def f(a):\n    b = set(a)\n    return b\n"),
    ("L25", "def f(a):\n    a.sort()\n"),
    ("L26", "class A:\n    def __init__(self):\n        self.args = 1\n"),
    ("L27", "def f(a):\n    return 2 ** a\n"),
    ("L27", "x = 'a % b'\n"),
    ("L27", "x = '\\x41'\n"),
    ("L28", "class A:\n    def __init__(self):\n        return None\n"),
]
OTHER = "def g():\n    return 1\n"


class Language(unittest.TestCase):
    def test_the_package_holds_its_files_alone(self):
        found = [path.name for path in FOLDER.iterdir() if path.name != "__pycache__"]
        self.assertEqual([name for name in found if not name_of_file_is_plain(name)], [])
        self.assertIn("__init__.py", found)

    def test_the_package_keeps_to_the_rules(self):
        files = {path.name: path.read_text(encoding="utf-8") for path in sorted(FOLDER.glob("*.py"))}
        self.assertGreater(len(files), 3)
        self.assertEqual(faults(files), [])

    def test_what_breaks_a_rule_is_seen(self):
        for rule, source in BROKEN:
            with self.subTest(rule, source=source):
                found = faults({"some.py": source, "other.py": OTHER})
                self.assertIn(rule, [fault[0] for fault in found])

    def test_names_of_files(self):
        for name in ["len.py", "Some.py", "_some.py"]:
            self.assertEqual(faults({name: OTHER}), [("L14", name, 1)])

    def test_files_that_draw_from_one_another(self):
        one = "from gainstream.two import f\n\n\ndef g():\n    return f()\n"
        two = "from gainstream.one import g\n\n\ndef f():\n    return g()\n"
        self.assertEqual(faults({"one.py": one, "two.py": two}), [("L16", "one.py", 1), ("L16", "two.py", 1)])

    def test_what_keeps_to_the_rules_passes(self):
        good = "from gainstream.other import g\n\nNAMES = ('a', 'b')\n\n\n" \
            "def f(a, b=None):\n    if b is None:\n        return [g() + c for c in a if c > 1]\n" \
            "    return sorted(a, key=lambda c: -c)\n"
        self.assertEqual(faults({"some.py": good, "other.py": OTHER}), [])


if __name__ == "__main__":
    unittest.main()
