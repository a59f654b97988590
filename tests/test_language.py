import ast
import os
import unittest

from tests.language import METHODS, PACKAGE, breaches

FOLDER = os.path.join(os.path.dirname(os.path.dirname(os.path.abspath(__file__))), PACKAGE)

BROKEN = [
    ("L2", "import os\n"),
    ("L2", "from os import path\n"),
    ("L2", "from .tables import amiss\n"),
    ("L2", "from tallyring.tables import *\n"),
    ("L2", "def f():\n    from tallyring.tables import amiss\n    return amiss\n"),
    ("L3", "print(5)\n"),
    ("L3", "A = len([])\n"),
    ("L3", "for k in (1, 2):\n    pass\n"),
    ("L4", "def f(a, /):\n    return a\n"),
    ("L5", "class A:\n    def __hash__(self):\n        return 5\n"),
    ("L6", "def f():\n    global A\n    A = 5\n"),
    ("L7", "def f(a):\n    return a / 2\n"),
    ("L7", "A = 0.5\n"),
    ("L7", "def f(a):\n    return sum(k for k in a)\n"),
    ("L8", "def f(a):\n    return hash(a)\n"),
    ("L8", "def f(a):\n    return round(a)\n"),
    ("L10", "def f(a):\n" + "    a = 1\n" * 40),
    ("L10", "A = 1\n" + "\n" * 400),
    ("L10", "A = '" + "a" * 120 + "'\n"),
    ("L12", "def f(a):\n    return [1 for _ in a]\n"),
    ("L12", "def _f(a):\n    return a\n"),
    ("L13", "def f(a):\n    b = {1, 2, 3}\n    return a in b\n"),
    ("L14", "A = '\u00e9'\n"),
    ("L14", "def f():\n\treturn 5\n"),
    ("L15", "A = 1\nA = 2\n"),
    ("L15", "A = {'a': [1]}\n"),
    ("L15", "A = [{}, 1]\n"),
    ("L15", "def f(min):\n    return min\n"),
    ("L15", "from tallyring.tables import amiss\n\n\ndef f(amiss):\n    return amiss\n"),
    ("L17", "# of this type\n"),
    ("L17", "def f(open):\n    return 5\n"),
    ("L18", "def f():\n    Box.many = 5\n"),
    ("L19", "def f():\n    try:\n        return 5\n    except Exception:\n        return 6\n"),
    ("L19", "def f(bad):\n    raise bad\n"),
    ("L20", "def f(a, b):\n    return a is b\n"),
    ("L21", "def f(a: int):\n    return a\n"),
    ("L22", "def f(a):\n    return sorted(a, keys=5)\n"),
    ("L22", "def f(a):\n    b = len\n    return b(a)\n"),
    ("L23", "def f(a):\n    b = range(a)\n    return b\n"),
    ("L23", "def f(a):\n    return a.items()\n"),
    ("L24", "def f(a):\n    return set(a)\n"),
    ("L24", "def f(a):\n    return [k for k in {b for b in a}]\n"),
    ("L25", "def f(a):\n    return a.isdisjoint([])\n"),
    ("L26", "class A:\n    def __init__(self):\n        self.items = 5\n"),
    ("L27", "def f(a):\n    return 2 ** a\n"),
    ("L27", "A = '5%'\n"),
    ("L27", "A = '\\x41'\n"),
    ("L28", "class A:\n    def __init__(self):\n        return None\n"),
    ("L28", "class A:\n    def __len__(self):\n        return self.many\n"),
    ("L28", "class A:\n    def __repr__(self):\n        return self.name\n"),
    ("L28", "class A:\n    def __repr__(self):\n        self.many = 5\n        return ''\n"),
    ("L28", "class A:\n    def __str__(self):\n        if self.many:\n            return ''\n"),
    ("L28", "def __eq__(self, other):\n    return True\n"),
]

SOUND = '''"""A file."""

from tallyring.errors import NotNext
from tallyring.tables import amiss

BOUND = 10 ** 3
ROWS = (1, -2, "a\\n")


class Box:
    """A box."""

    def __init__(self, rows):
        self.rows = list(rows)

    def __eq__(self, other):
        return isinstance(other, Box) and self.rows == other.rows

    def __len__(self):
        return len(self.rows)

    def __repr__(self):
        return f"Box({len(self.rows)} rows)"


def told(table, *, many=5):
    seen = set()
    try:
        for at, row in enumerate(table):
            if row not in seen and at % 2 == 0 and amiss(row) is None:
                seen.add(row)
    except NotNext:
        return []
    if len({row[0] for row in table}) > many:
        raise NotNext(0, 1)
    return sorted(seen)
'''


def sources():
    for name in sorted(os.listdir(FOLDER)):
        if name != "__pycache__":
            with open(os.path.join(FOLDER, name), encoding="utf-8", newline="") as file:
                yield name, file.read()


def own_methods():
    return {
        item.name
        for name, source in sources()
        for node in ast.walk(ast.parse(source))
        if isinstance(node, ast.ClassDef)
        for item in node.body
        if isinstance(item, ast.FunctionDef)
    }


class Language(unittest.TestCase):
    def test_no_file_breaks_a_rule(self):
        methods = own_methods()
        for name, source in sources():
            with self.subTest(name):
                self.assertEqual(breaches(source, methods), [])

    def test_files_have_plain_names(self):
        names = [name for name, source in sources()]
        self.assertIn("__init__.py", names)
        self.assertLessEqual(len(names), 100)
        for name in names:
            self.assertRegex(name, r"^(__init__|[a-z][a-z0-9_]*)\.py$")
            self.assertNotRegex(name, r"^(law_|test_|(test|tests|testing|site|conftest)\.py)")

    def test_imports_name_the_file_that_defines_and_go_no_round(self):
        imports = {name[:-3]: self.imported(source) for name, source in sources()}
        defined = {name[:-3]: list(self.defined(source)) for name, source in sources()}
        for name, found in imports.items():
            for module, imported in found:
                self.assertIn(imported, defined[module], name)
        done = set()
        while len(done) < len(imports):
            ready = {
                name for name in imports
                if name not in done and all(module in done for module, imported in imports[name])
            }
            self.assertTrue(ready, "files import from each other")
            done |= ready

    def imported(self, source):
        return [
            (node.module[len(PACKAGE) + 1:], alias.name)
            for node in ast.walk(ast.parse(source))
            if isinstance(node, ast.ImportFrom)
            for alias in node.names
        ]

    def defined(self, source):
        for node in ast.parse(source).body:
            if isinstance(node, (ast.FunctionDef, ast.ClassDef)):
                yield node.name
            elif isinstance(node, ast.Assign):
                yield node.targets[0].id

    def test_no_name_is_a_method_and_an_attribute(self):
        stored = {
            node.attr
            for name, source in sources()
            for node in ast.walk(ast.parse(source))
            if isinstance(node, ast.Attribute) and isinstance(node.ctx, ast.Store)
        }
        self.assertEqual(stored & own_methods(), set())


    def test_attributes_that_are_read_are_assigned_or_methods(self):
        nodes = [node for name, source in sources() for node in ast.walk(ast.parse(source))]
        attributes = [node for node in nodes if isinstance(node, ast.Attribute)]
        stored = {node.attr for node in attributes if isinstance(node.ctx, ast.Store)}
        read = {node.attr for node in attributes if isinstance(node.ctx, ast.Load)}
        self.assertEqual(read - stored - own_methods() - METHODS, set())


class TheReadingItself(unittest.TestCase):
    def test_broken_samples(self):
        for rule, source in BROKEN:
            with self.subTest(rule, source=source):
                self.assertIn(rule, [found for found, line in breaches(source)])

    def test_sound_sample(self):
        self.assertEqual(breaches(SOUND), [])


if __name__ == "__main__":
    unittest.main()
