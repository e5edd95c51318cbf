"""The rules of ../shared/LANGUAGE.md that a test can hold, on the files of the package.

Each rule is also tried on code that breaks it, so that it is known to see what it is for. L11 (the same on both
Pythons) is held by .ci/run, which takes each Python that it finds, and by test_long_input.
"""

import os
import shutil
import tempfile
import unittest

import rules_of_files
import rules_of_meaning
import rules_of_syntax
from package_files import ROOT, Package, read_package

RULES = {**rules_of_files.RULES, **rules_of_syntax.RULES, **rules_of_meaning.RULES}
NAME = "heldloops"

GOOD = '''"""Rows."""

from heldloops.other import Fault, low

WAYS = {"left": -1, "right": 1}


class Box:
    """A box."""

    def __init__(self, rows):
        self.rows = list(rows)

    def widest(self):
        """The longest row."""
        return max([len(row) for row in self.rows], default=0)


class Wide(Box):
    """A wide box."""


def step(at, way, by=1):
    """The next place."""
    if way not in WAYS:
        raise Fault(at)
    seen = set()
    for k, row in enumerate(Wide([[at]]).rows):
        seen.add(k)
    while at in seen:
        at += by * WAYS[way] ** 2
    try:
        return low(at, key=min)
    except Fault as fault:
        return fault.at if fault.at is not None else sorted(seen, reverse=True)[0]
'''

OTHER = '''"""Faults."""


class Fault(ValueError):
    """A fault."""

    def __init__(self, at):
        self.at = at


def low(at, key):
    """The lowest."""
    return key([*list(range(3)), at])
'''

IN_FUNCTION = "def run(xs, d):\n    "

BROKEN = {
    "L14 names of files": [],
    "L14 characters": ["A = 'x\u00e4'\n", "A = 1\r\n"],
    "L10": ["A = 1\n" * 400, "# " + "x" * 119 + "\n", "if A:\n\tB = 1\n", "def run():\n" + "    pass\n" * 40],
    "L2, L9, L16 imports": [
        "import os\n", "import sys\n", "from os import path\n", "from heldloops.other import *\n",
        "from .other import low\n", "from . import other\n", "A = 1\nfrom heldloops.other import low\n",
        "from heldloops import other\n", "from heldloops.other import missing\n", "from heldloops.lost import low\n",
        "from random import Random\n", "from time import time\n", "from math import pi\n",
        "from math import gcd as g\n", IN_FUNCTION + "from heldloops.other import low\n",
        "from collections import Counter\n",
    ],
    "L16 circles": ["from heldloops.part import run\n"],
    "L8, L12, L15, L17 names": [
        "__low = 1\n", "_pe_low = 1\n", "_cold2 = 1\n", "class _Box:\n    pass\n", "def mro():\n    pass\n",
        "def run(open):\n    pass\n", "def run(xs):\n    return xs.f_code\n", IN_FUNCTION + "return _\n",
        "min = 1\n", "def run(id):\n    pass\n", "def hash(x):\n    pass\n", IN_FUNCTION + "for k, type in xs:\n        pass\n",
        "class Box:\n    def exit(self):\n        pass\n", "def run():\n    elements = 1\n", "def run(x):\n    x.law = 1\n",
    ],
    "L12, L17 words": ["# _wall\n", "A = 'enum'\n", "A = 'a dataclasses'\n", "from typing import List\n", "A = type\n"],
    "L7, L27 strings": [
        "A = 1.5\n", "A = 2j\n", "A = '%'\n", "A = 'a._'\n", "A = '__odd__'\n", "A = 'a.__x'\n", "A = '\\t\\x41'\n",
        "A = r'a'\n", "A = '\\u0041'\n", "A = 1" + "0" * 900 + "\n",
    ],
    "L6, L7 kinds of nodes": [
        "async def run():\n    pass\n", IN_FUNCTION + "global A\n", IN_FUNCTION + "return 1 / 2\n",
        IN_FUNCTION + "del xs.a\n", IN_FUNCTION + "del (xs, d)\n", IN_FUNCTION + "xs[1:] += [1]\n",
        IN_FUNCTION + "assert (xs, 'no')\n", "assert A\n", IN_FUNCTION + "return xs @ xs\n",
    ],
    "L3, L15 module level": [
        "A, B = 1, 2\n", "A = len([1])\n", "print(1)\n", "for k in (1, 2):\n    pass\n", "A = B = 1\n", "A = [[1]]\n",
        "A = {'a': [1]}\n", "A = ([1], 2)\n", "A = 1\nA += 1\n", "A = [k for k in (1, 2)]\n", "if 1:\n    A = 1\n",
        "A = lambda x: x\n", "A: int\n",
    ],
    "L4": [
        "@low\ndef run():\n    pass\n", "def run(a=[]):\n    pass\n", "def run(*, a={}):\n    pass\n",
        "def run(a=len('a')):\n    pass\n", "A = lambda *a: a\n",
        "class Box:\n    @property\n    @low\n    def run(self):\n        pass\n",
    ],
    "L5, L15, L18 classes": [
        "@low\nclass Box:\n    pass\n", "class Box(metaclass=Low):\n    pass\n", "class Box(a.B):\n    pass\n",
        "class Box(dict):\n    pass\n", "class Box:\n    for k in (1, 2):\n        pass\n",
        "class Box:\n    def __hash__(self):\n        return 1\n", "def __len__():\n    return 1\n",
        "class Box:\n    def run(self):\n        pass\n    def run(self):\n        pass\n",
        "class Box:\n    def run(self):\n        self.run = 1\n", "def run():\n    class Box:\n        pass\n",
        "class Lost(AttributeError):\n    pass\n",
    ],
    "L8, L9, L22 builtins": [
        IN_FUNCTION + "print(xs)\n", IN_FUNCTION + "return hash(xs)\n", IN_FUNCTION + "return eval('1')\n",
        IN_FUNCTION + "return filter(None, xs)\n", IN_FUNCTION + "return len\n", IN_FUNCTION + "return open('a')\n",
        IN_FUNCTION + "return float(1)\n", IN_FUNCTION + "return id(xs)\n", IN_FUNCTION + "return sys.modules\n",
        IN_FUNCTION + "return slice(1)\n", IN_FUNCTION + "return round(1)\n", IN_FUNCTION + "return chr(65)\n",
    ],
    "L22 keywords": [
        IN_FUNCTION + "return zip(xs, other=1)\n", IN_FUNCTION + "return min(xs, reverse=True)\n",
        IN_FUNCTION + "return 'a'.split(sep=',')\n", IN_FUNCTION + "return int('1', base=8)\n",
        IN_FUNCTION + "raise ValueError(why=1)\n", IN_FUNCTION + "return enumerate(xs, begin=1)\n",
    ],
    "L7, L25 methods": [
        IN_FUNCTION + "return xs.fromkeys(d)\n", IN_FUNCTION + "d.popitem()\n", IN_FUNCTION + "return xs.union(d)\n",
        IN_FUNCTION + "return bytes(xs)\n", IN_FUNCTION + "return chr(65)\n", IN_FUNCTION + "return xs.to_bytes(1)\n",
        IN_FUNCTION + "return xs.format_map(d)\n", IN_FUNCTION + "return frozenset(xs)\n",
    ],
    "L13, L24 sets": [
        IN_FUNCTION + "for k in set(xs):\n        pass\n", IN_FUNCTION + "return {1, 2, 3}\n",
        IN_FUNCTION + "return list(set(xs))\n", IN_FUNCTION + "seen = set(xs)\n    return seen\n",
        IN_FUNCTION + "seen = {x for x in xs}\n    return [x for x in seen]\n", "A = {1, 2}\n",
        IN_FUNCTION + "seen = set(xs)\n    seen |= set(d)\n", IN_FUNCTION + "seen = set(xs)\n    return seen.pop()\n",
        IN_FUNCTION + "seen = set(xs)\n    run(seen, d)\n", IN_FUNCTION + "xs.append({'a'})\n",
    ],
    "L23 iterated at once": [
        IN_FUNCTION + "return zip(xs, d)\n", IN_FUNCTION + "a = enumerate(xs)\n", IN_FUNCTION + "return d.items()\n",
        IN_FUNCTION + "return reversed(d.keys())\n", IN_FUNCTION + "run(range(3), d)\n",
        IN_FUNCTION + "return (x for x in xs)\n", IN_FUNCTION + "return map(len, xs)\n",
        IN_FUNCTION + "return len(zip(xs, d))\n", IN_FUNCTION + "a, b = zip(xs, d)\n",
    ],
    "L23 changed in loops": [
        IN_FUNCTION + "for x in xs:\n        xs.append(x)\n", IN_FUNCTION + "for k in d:\n        del d[k]\n",
        IN_FUNCTION + "for k, x in enumerate(xs):\n        xs[k] = x + 1\n",
        IN_FUNCTION + "for k, x in d.items():\n        d.pop(k)\n", IN_FUNCTION + "for x in xs:\n        xs += [x]\n",
        "class Box:\n    def run(self):\n        for row in self.rows:\n            self.rows.remove(row)\n",
    ],
    "L7 comprehensions": ["A = [k for k in (1, 2)]\n", IN_FUNCTION + "return sum(k for x in xs if (k := x))\n"],
    "L13 lambdas": ["A = [lambda x: x, lambda x: 1]\n"],
    "L20": [IN_FUNCTION + "return xs is d\n", IN_FUNCTION + "return xs is not 1\n"],
    "L27 exponents": [IN_FUNCTION + "return 2 ** xs\n", IN_FUNCTION + "return 2 ** 65\n", IN_FUNCTION + "return 2 ** -1\n"],
    "L21": ["def run(a: complex):\n    pass\n", "def run(a) -> 'Box':\n    pass\n", "A: int\n"],
    "L15 bound once": [
        "A = 1\nA = 2\n", "def run():\n    pass\nrun = 1\n", "from heldloops.other import low\nlow = 1\n",
        "from heldloops.other import low\ndef run(low):\n    pass\n",
        "class Box:\n    pass\ndef run():\n    Box = 1\n", "from heldloops.other import low, low\n",
    ],
    "L15 read only": [
        "A = [1]\ndef run():\n    A.append(1)\n", "A = {}\ndef run():\n    A['a'] = 1\n", "A = [1]\ndef run():\n    return A\n",
        "A = [1]\ndef run():\n    b = A\n", "A = [1]\ndef run(xs):\n    xs.extend(A)\n",
    ],
    "L18 uses of classes": [
        "class Box:\n    pass\ndef run():\n    return [Box]\n", "class Box:\n    pass\ndef run():\n    b = Box\n",
        "class Box:\n    pass\ndef run():\n    Box.many = 1\n",
        "class Box:\n    pass\ndef run():\n    return isinstance(Box, int)\n",
    ],
    "L18, L26 members": [
        "class Box:\n    def decode(self):\n        self.items = 1\n", "def run(b):\n    b.update = 1\n",
        "def run(b):\n    return b.nowhere\n", "class Box:\n    def bit_count(self):\n        pass\n",
        "class Box:\n    def __init__(self):\n        self.sort = 1\n",
    ],
    "L18, L19 errors": [
        IN_FUNCTION + "raise xs\n", IN_FUNCTION + "raise run(xs, d)\n", IN_FUNCTION + "raise 'a'\n",
        IN_FUNCTION + "try:\n        pass\n    except TypeError:\n        pass\n",
        IN_FUNCTION + "try:\n        pass\n    except Exception:\n        pass\n",
        IN_FUNCTION + "try:\n        pass\n    except:\n        pass\n",
        IN_FUNCTION + "try:\n        run(xs, d)\n    except ValueError:\n        pass\n",
        IN_FUNCTION + "try:\n        pass\n    except (KeyError, OSError):\n        pass\n",
        "class Lost(ValueError):\n    A = 1\n", IN_FUNCTION + "raise ValueError('a') from xs[0]\n",
    ],
    "L28": [
        "class Box:\n    def __init__(self):\n        return None\n",
        "class Box:\n    def __len__(self):\n        while True:\n            return 1\n",
        "class Box:\n    def __eq__(self, other):\n        self.a = 1\n        return True\n",
        "class Box:\n    def run(self):\n        Box.__init__(self)\n",
    ],
    "L22 arguments": [
        "def low(a):\n    pass\ndef run():\n    low()\n", "def low(a, b=1):\n    pass\ndef run():\n    low(1, 2, 3)\n",
        "class Box:\n    def __init__(self, a):\n        pass\ndef run():\n    Box()\n",
    ],
}


def faults_of(rule, texts):
    """What the rule tells of a package of these files."""
    return list(RULES[rule](Package(NAME, {"__init__.py": '"""Doc."""\n', **texts})))


class LanguageTest(unittest.TestCase):

    def test_package(self):
        package = read_package(NAME)
        self.assertGreater(len(package.files), 1)
        for rule, check in RULES.items():
            with self.subTest(rule=rule):
                self.assertEqual(list(check(package)), [])

    def test_folder(self):
        self.assertEqual(rules_of_files.folder_faults(os.path.join(ROOT, NAME)), [])

    def test_one_package(self):
        found = [name for name in sorted(os.listdir(ROOT)) if os.path.exists(os.path.join(ROOT, name, "__init__.py"))]
        self.assertEqual(found, [NAME])


class RulesTest(unittest.TestCase):

    def test_good_code_breaks_no_rule(self):
        for rule in RULES:
            with self.subTest(rule=rule):
                self.assertEqual(faults_of(rule, {"part.py": GOOD, "other.py": OTHER}), [])

    def test_broken_code_breaks_its_rule(self):
        self.assertEqual(sorted(BROKEN), sorted(RULES))
        for rule, texts in BROKEN.items():
            for text in texts:
                with self.subTest(rule=rule, text=text):
                    other = "from heldloops.part import run\n" + OTHER if rule == "L16 circles" else OTHER
                    part = "from heldloops.other import low\n" if rule == "L16 circles" else text
                    self.assertNotEqual(faults_of(rule, {"part.py": part, "other.py": other}), [])

    def test_names_of_files(self):
        for path in ("Low.py", "test_low.py", "len.py", "site.py", "tests/low.py", "law_one.py", "rows/__main__.py"):
            with self.subTest(path=path):
                self.assertNotEqual(faults_of("L14 names of files", {path: "A = 1\n"}), [])
        self.assertNotEqual(faults_of("L14 names of files", {f"part{k}.py": "A = 1\n" for k in range(100)}), [])
        self.assertEqual(faults_of("L14 names of files", {f"part{k}.py": "A = 1\n" for k in range(99)}), [])
        self.assertNotEqual(list(RULES["L14 names of files"](Package("json", {"__init__.py": ""}))), [])
        self.assertNotEqual(list(RULES["L14 names of files"](Package(NAME, {"part.py": ""}))), [])

    def test_sizes_at_the_edge(self):
        edges = ["A = 1\n" * 399, "#" + "x" * 119 + "\n", "def run():\n" + "    pass\n" * 39]
        for text in edges:
            self.assertEqual(faults_of("L10", {"part.py": text}), [])

    def test_folders(self):
        folder = tempfile.mkdtemp()
        try:
            self.assertNotEqual(rules_of_files.folder_faults(folder), [])
            for name in ("__init__.py", "part.py"):
                self.write(folder, name, b"A = 1\n")
            self.assertEqual(rules_of_files.folder_faults(folder), [])
            for name, data in (("notes.txt", b""), ("a-b.py", b""), ("Part2.py", b""), ("part3.py", b"\xff")):
                self.write(folder, name, data)
                self.assertNotEqual(rules_of_files.folder_faults(folder), [], name)
                os.remove(os.path.join(folder, name))
        finally:
            shutil.rmtree(folder)

    def write(self, folder, name, data):
        with open(os.path.join(folder, name), "wb") as target:
            target.write(data)


if __name__ == "__main__":
    unittest.main()
