"""The package's files keep to the rules of their part of Python, as far as the helper sees them."""

import pathlib
import unittest

import language

FOLDER = pathlib.Path(__file__).resolve().parent.parent / language.PACKAGE

# A rule, and a file that breaks it.
BROKEN = [
    ("L2", "from math import gcd\n"),
    ("L2", "def f():\n    from gainstream.other import g\n    return g()\n"),
    ("L2", "from .other import g\n"),
    ("L16", "import gainstream.other\n"),
    ("L16", "from gainstream.other import h\n"),
    ("L16", "from gainstream import other\n"),
    ("L3", "xs = list()\n"),
    ("L3", "for x in (1, 2):\n    pass\n"),
    ("L4", "def f(*xs):\n    return 1\n"),
    ("L4", "def f(**xs):\n    return 1\n"),
    ("L4", "def f(a, *, b):\n    return a\n"),
    ("L4", "def f(a=[]):\n    return a\n"),
    ("L5", "class A:\n    x = 1\n"),
    ("L6", "def f(a):\n    assert a\n"),
    ("L6", "def f():\n    a = b = 1\n    return a + b\n"),
    ("L6", "def f(a):\n    for b in a:\n        pass\n    else:\n        return 1\n"),
    ("L6", "def f(a):\n    a == 1\n"),
    ("L7", "def f(a):\n    return a / 2\n"),
    ("L7", "def f():\n    return 1.5\n"),
    ("L7", "def f(a):\n    return {b: 1 for b in a}\n"),
    ("L7", "def f(a):\n    return [b for c in a for b in c]\n"),
    ("L7", "def f(a):\n    return f'{a.b}'\n"),
    ("L8", "def f(a):\n    return map(f, a)\n"),
    ("L8", "def f(a):\n    print(a)\n"),
    ("L10", "def f():\n" + "    f()\n" * 40),
    ("L10", "x = 1\n" + "\n" * 400),
    ("L10", "x = " + "1 + " * 30 + "1\n"),
    ("L12", "def f(a):\n    _b = a\n    return 1\n"),
    ("L14", "# \u00fc\n"),
    ("L15", "x = 1\nx = 2\n"),
    ("L15", "def f(a):\n    hash = a\n    return 1\n"),
    ("L17", "# a type\n"),
    ("L17", "def f(a):\n    return a.mro\n"),
    ("L18", "class A:\n    def f(self):\n        return 1\n\n    def f(self):\n        return 2\n"),
    ("L18", "class A:\n    def __init__(self):\n        self.f = 1\n\n    def f(self):\n        return 1\n"),
    ("L19", "def f(a):\n    raise a\n"),
    ("L19", "def f(a):\n    try:\n        return f(a)\n    except TypeError:\n        return 1\n"),
    ("L20", "def f(a, b):\n    return a is b\n"),
    ("L21", "def f(a: int):\n    return a\n"),
    ("L22", "def f(a):\n    return int(a, base=3)\n"),
    ("L23", "def f(a):\n    b = range(a)\n    return b\n"),
    ("L24", "def f(a):\n    b = set(a)\n    return b\n"),
    ("L25", "def f(a):\n    a.sort()\n"),
    ("L26", "class A:\n    def __init__(self):\n        self.args = 1\n"),
    ("L27", "def f(a):\n    return 2 ** a\n"),
    ("L27", "x = 'a % b'\n"),
    ("L27", "x = '\\x41'\n"),
    ("L28", "class A:\n    def __init__(self):\n        return None\n"),
]
OTHER = "def g():\n    return 1\n"


class Language(unittest.TestCase):
    def test_the_package_holds_its_files_alone(self):
        found = [path.name for path in FOLDER.iterdir() if path.name != "__pycache__"]
        self.assertEqual([name for name in found if not language.name_of_file_is_plain(name)], [])
        self.assertIn("__init__.py", found)

    def test_the_package_keeps_to_the_rules(self):
        files = {path.name: path.read_text(encoding="utf-8") for path in sorted(FOLDER.glob("*.py"))}
        self.assertGreater(len(files), 3)
        self.assertEqual(language.faults(files), [])

    def test_what_breaks_a_rule_is_seen(self):
        for rule, source in BROKEN:
            with self.subTest(rule, source=source):
                found = language.faults({"some.py": source, "other.py": OTHER})
                self.assertIn(rule, [fault[0] for fault in found])

    def test_names_of_files(self):
        for name in ["len.py", "Some.py", "_some.py"]:
            self.assertEqual(language.faults({name: OTHER}), [("L14", name, 1)])

    def test_files_that_draw_from_one_another(self):
        one = "from gainstream.two import f\n\n\ndef g():\n    return f()\n"
        two = "from gainstream.one import g\n\n\ndef f():\n    return g()\n"
        self.assertEqual(language.faults({"one.py": one, "two.py": two}), [("L16", "one.py", 1), ("L16", "two.py", 1)])

    def test_what_keeps_to_the_rules_passes(self):
        good = "from gainstream.other import g\n\nNAMES = ('a', 'b')\n\n\n" \
            "def f(a, b=None):\n    if b is None:\n        return [g() + c for c in a if c > 1]\n" \
            "    return sorted(a, key=lambda c: -c)\n"
        self.assertEqual(language.faults({"some.py": good, "other.py": OTHER}), [])


if __name__ == "__main__":
    unittest.main()
