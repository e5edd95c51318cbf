"""The files of a package as texts and trees, for the tests of the rules of ../shared/LANGUAGE.md."""

import ast
import os
import warnings

ROOT = os.path.dirname(os.path.dirname(os.path.abspath(__file__)))
FUNCTIONS = (ast.FunctionDef, ast.AsyncFunctionDef)
COMPREHENSIONS = (ast.ListComp, ast.SetComp, ast.DictComp, ast.GeneratorExp)
BASE_ERRORS = ("Exception", "ValueError", "TypeError", "KeyError", "IndexError", "LookupError", "ZeroDivisionError",
               "ArithmeticError", "OverflowError", "RuntimeError", "NotImplementedError", "AttributeError",
               "StopIteration")


class File:
    """A file of a package: its path below the package, its text and its tree, in which each node knows its parent."""

    def __init__(self, path, text):
        self.path = path
        self.text = text
        # What Python warns of is held by a rule of its own.
        with warnings.catch_warnings():
            warnings.simplefilter("ignore")
            self.tree = ast.parse(text)
        self.tree.parent = None
        self.nodes = list(ast.walk(self.tree))
        for node in self.nodes:
            for child in ast.iter_child_nodes(node):
                child.parent = node

    def of(self, *kinds):
        """All nodes of these kinds."""
        return [node for node in self.nodes if isinstance(node, kinds)]

    def calls(self, *names):
        """All calls of these plain names."""
        return [node for node in self.of(ast.Call) if isinstance(node.func, ast.Name) and node.func.id in names]


class Package:
    """All files of a package, and what they define."""

    def __init__(self, name, texts):
        self.name = name
        self.files = [File(path, texts[path]) for path in sorted(texts)]
        self.classes = [node for file in self.files for node in file.of(ast.ClassDef)]
        self.class_names = {node.name for node in self.classes}
        self.functions = {node.name for file in self.files for node in file.of(*FUNCTIONS) if not is_method(node)}
        self.methods = {node.name for file in self.files for node in file.of(*FUNCTIONS) if is_method(node)}
        self.error_names = set(BASE_ERRORS)
        for _ in self.classes:
            self.error_names |= {node.name for node in self.classes if bases_of(node) & self.error_names}

    def file(self, path):
        """The file of this path, or None."""
        return next((file for file in self.files if file.path == path), None)


def read_package(name):
    """The package of the repository."""
    texts = {}
    top = os.path.join(ROOT, name)
    for folder, _, names in os.walk(top):
        for found in names:
            if found.endswith(".py"):
                with open(os.path.join(folder, found), encoding="utf-8", newline="") as source:
                    texts[os.path.relpath(os.path.join(folder, found), top)] = source.read()
    return Package(name, texts)


def bases_of(node):
    """The names of the base classes of a class."""
    return {base.id for base in node.bases if isinstance(base, ast.Name)}


def is_method(node):
    """Whether the function stands in the body of a class."""
    return isinstance(node.parent, ast.ClassDef)


def function_around(node):
    """The function or lambda that the node stands in, or None."""
    node = node.parent
    while node is not None and not isinstance(node, FUNCTIONS + (ast.Lambda,)):
        node = node.parent
    return node


def inside(node, top):
    """The nodes around the node, up to the top one and without it."""
    found = []
    node = node.parent
    while node is not None and node is not top:
        found.append(node)
        node = node.parent
    return found


def word(node):
    """The name, if the node is a plain name."""
    return node.id if isinstance(node, ast.Name) else None


def called(node):
    """The plain name that the node calls, if it is a call of one."""
    return word(node.func) if isinstance(node, ast.Call) else None


def is_docstring(node):
    """Whether the constant is the docstring of a file, a class or a function."""
    holder = node.parent.parent if isinstance(node.parent, ast.Expr) else None
    return isinstance(holder, (ast.Module, ast.ClassDef) + FUNCTIONS) and holder.body[0] is node.parent


def names_of(file):
    """All names that the file writes, as (name, role, node)."""
    for node in file.nodes:
        if isinstance(node, ast.Name):
            yield node.id, "read" if isinstance(node.ctx, ast.Load) else "variable", node
        elif isinstance(node, FUNCTIONS):
            yield node.name, "method" if is_method(node) else "function", node
        elif isinstance(node, ast.ClassDef):
            yield node.name, "class", node
        elif isinstance(node, ast.arg):
            yield node.arg, "parameter", node
        elif isinstance(node, ast.Attribute):
            yield node.attr, "attribute", node
        elif isinstance(node, ast.keyword) and node.arg is not None:
            yield node.arg, "keyword", node.value
        elif isinstance(node, ast.alias):
            yield node.asname or node.name, "import", node
        elif isinstance(node, ast.ExceptHandler) and node.name:
            yield node.name, "caught", node
        elif isinstance(node, (ast.MatchAs, ast.MatchStar)) and node.name:
            yield node.name, "variable", node


BOUND = ("variable", "function", "class", "import", "parameter", "caught")


def bound_names(file):
    """All names that the file gives a meaning (methods and attributes are not among them)."""
    return [(name, role, node) for name, role, node in names_of(file) if role in BOUND]


def fault(file, node, words):
    """What a rule tells of a place."""
    return f"{file.path}:{getattr(node, 'lineno', 0)}: {words}"
