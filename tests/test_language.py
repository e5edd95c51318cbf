"""The rules of ../shared/LANGUAGE.md that a test can hold, on the files of the package.

Each rule is also tried on code that breaks it, so that it is known to see what it is for. L11 (the same on both
Pythons) is held by .ci/run, which takes each Python that it finds, and by test_long_input.
"""

import os
import shutil
import tempfile
import unittest

import rules_of_calls
import rules_of_files
import rules_of_library
import rules_of_meaning
import rules_of_statements
import rules_of_syntax
from broken_code import BROKEN, WRONG
from good_code import GOOD
from package_files import ROOT, Package, read_package

RULES = {**rules_of_files.RULES, **rules_of_syntax.RULES, **rules_of_meaning.RULES, **rules_of_library.RULES,
         **rules_of_statements.RULES, **rules_of_calls.RULES}
NAME = "heldloops"

ROWS = '''"""Rows."""

from heldloops.other import Fault, low

WAYS = {"left": -1, "right": 1}


class Box:
    """A box."""

    def __init__(self, rows):
        self.rows = list(rows)

    def widest(self):
        """The longest row."""
        return max([len(row) for row in self.rows], default=0)


class Wide(Box):
    """A wide box."""


def step(at, way, by=1):
    """The next place."""
    if way not in WAYS:
        raise Fault(at)
    seen = set()
    for k, row in enumerate(Wide([[at]]).rows):
        seen.add(k)
    while at in seen:
        at += by * WAYS[way] ** 2
    try:
        return low(at, key=min)
    except Fault as fault:
        return fault.at if fault.at is not None else sorted(seen, reverse=True)[0]
'''

OTHER = '''"""Faults."""


class Fault(ValueError):
    """A fault."""

    def __init__(self, at):
        self.at = at


def low(at, key):
    """The lowest."""
    return key([*list(range(3)), at])
'''


def faults_of(rule, texts):
    """What the rule tells of a package of these files."""
    return list(RULES[rule](Package(NAME, {"__init__.py": '"""Doc."""\n', **texts})))


class LanguageTest(unittest.TestCase):

    def test_package(self):
        package = read_package(NAME)
        self.assertGreater(len(package.files), 1)
        for rule, check in RULES.items():
            with self.subTest(rule=rule):
                self.assertEqual(list(check(package)), [])

    def test_folder(self):
        self.assertEqual(rules_of_files.folder_faults(os.path.join(ROOT, NAME)), [])

    def test_one_package(self):
        found = [name for name in sorted(os.listdir(ROOT)) if os.path.exists(os.path.join(ROOT, name, "__init__.py"))]
        self.assertEqual(found, [NAME])


class RulesTest(unittest.TestCase):

    def test_good_code_breaks_no_rule(self):
        for rule in RULES:
            with self.subTest(rule=rule):
                self.assertEqual(faults_of(rule, {"part.py": ROWS, "other.py": OTHER}), [])

    def test_what_the_rules_let(self):
        for text in GOOD:
            for rule in RULES:
                with self.subTest(rule=rule, text=text):
                    self.assertEqual(faults_of(rule, {"part.py": text, "other.py": OTHER}), [])

    def test_wrong_code_breaks_a_rule(self):
        for letter, texts in WRONG.items():
            for text in texts:
                with self.subTest(letter=letter, text=text):
                    files = {"part.py": text, "other.py": OTHER}
                    self.assertTrue(any(faults_of(rule, files) for rule in RULES))

    def test_broken_code_breaks_its_rule(self):
        self.assertEqual(sorted(BROKEN), sorted(RULES))
        for rule, texts in BROKEN.items():
            for text in texts:
                with self.subTest(rule=rule, text=text):
                    other = "from heldloops.part import run\n" + OTHER if rule == "L16 circles" else OTHER
                    part = "from heldloops.other import low\n" if rule == "L16 circles" else text
                    self.assertNotEqual(faults_of(rule, {"part.py": part, "other.py": other}), [])

    def test_names_of_files(self):
        for path in ("Low.py", "test_low.py", "len.py", "site.py", "tests/low.py", "law_one.py", "rows/__main__.py"):
            with self.subTest(path=path):
                self.assertNotEqual(faults_of("L14 names of files", {path: "A = 1\n"}), [])
        self.assertNotEqual(faults_of("L14 names of files", {f"part{k}.py": "A = 1\n" for k in range(100)}), [])
        self.assertEqual(faults_of("L14 names of files", {f"part{k}.py": "A = 1\n" for k in range(99)}), [])
        self.assertNotEqual(list(RULES["L14 names of files"](Package("json", {"__init__.py": ""}))), [])
        self.assertNotEqual(list(RULES["L14 names of files"](Package(NAME, {"part.py": ""}))), [])

    def test_sizes_at_the_edge(self):
        edges = ["A = 1\n" * 399, "#" + "x" * 119 + "\n", "def run():\n" + "    pass\n" * 39]
        for text in edges:
            self.assertEqual(faults_of("L10", {"part.py": text}), [])

    def test_folders(self):
        folder = tempfile.mkdtemp()
        try:
            self.assertNotEqual(rules_of_files.folder_faults(folder), [])
            for name in ("__init__.py", "part.py"):
                self.write(folder, name, b"A = 1\n")
            self.assertEqual(rules_of_files.folder_faults(folder), [])
            for name, data in (("notes.txt", b""), ("a-b.py", b""), ("Part2.py", b""), ("part3.py", b"\xff")):
                self.write(folder, name, data)
                self.assertNotEqual(rules_of_files.folder_faults(folder), [], name)
                os.remove(os.path.join(folder, name))
        finally:
            shutil.rmtree(folder)

    def write(self, folder, name, data):
        with open(os.path.join(folder, name), "wb") as target:
            target.write(data)


if __name__ == "__main__":
    unittest.main()
