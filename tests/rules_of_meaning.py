"""The rules of ../shared/LANGUAGE.md about what names mean, errors, classes, and methods with double underscores."""

import ast

from package_files import FUNCTIONS, bases_of, bound_names, fault, function_around, is_method
from rules_of_files import top_names
from rules_of_syntax import CHANGING, STRING_METHODS

CAUGHT_FREELY = ("KeyError", "ZeroDivisionError", "StopIteration")
CAUGHT_NARROWLY = ("ValueError", "LookupError", "IndexError")
CALLED_IN_NARROW_TRY = ("int", "str", "len", "isinstance", "abs", "ord", "enumerate", "list", "tuple", "bytes", "zip",
                        "range", "sorted", "any", "all", "bool", "min", "max", "sum")
VALUES = ("", 0, [], {}, b"", (), set(), 0.5)
NO_METHODS = tuple(word for value in VALUES for word in dir(value) if not word.startswith("__"))
ATTRIBUTES_LIKE_METHODS = ("count", "index", "title", "find", "get", "join", "lower", "upper", "split", "strip", "copy",
                           "add")
TAKING_ONE_SIZE = ("__len__", "__str__", "__repr__")


def bound_once(package):
    """L15: a name is bound once at module level, and has no other meaning in its file."""
    for file in package.files:
        imported = [(name.asname or name.name, node) for node in file.of(ast.ImportFrom) for name in node.names]
        seen = {name for name, _ in imported}
        if len(seen) < len(imported):
            yield f"{file.path}: imported twice"
        for name, node in top_names(file):
            if name in seen:
                yield fault(file, node, f"{name} is bound twice")
            seen.add(name)
        fixed = {name for name, _ in imported} | {node.name for node in file.of(ast.ClassDef)}
        for name, role, node in bound_names(file):
            if name in fixed and role not in ("import", "class"):
                yield fault(file, node, f"{name} has two meanings")


def read_only(package):
    """L15: lists and dicts at module level are only read, and not passed on."""
    for file in package.files:
        tables = {node.targets[0].id for node in file.tree.body
                  if isinstance(node, ast.Assign) and isinstance(node.value, (ast.List, ast.Dict))}
        for node in file.of(ast.Name):
            if node.id in tables and function_around(node) is not None and not is_read(node):
                yield fault(file, node, f"the table {node.id}")


def is_read(node):
    """Whether the name of a table stands where it is only read."""
    parent = node.parent
    if isinstance(parent, ast.Subscript):
        return isinstance(parent.ctx, ast.Load)
    if isinstance(parent, ast.Attribute):
        return parent.attr not in CHANGING
    if isinstance(parent, ast.Call):
        return getattr(parent.func, "id", None) in ("len", "list", "dict", "tuple", "sorted", "sum", "min", "max", "any",
                                                    "all", "enumerate", "zip")
    return isinstance(parent, (ast.Compare, ast.For, ast.comprehension, ast.UnaryOp))


def class_uses(package):
    """L18: a class is called, a base, raised, caught, or asked for in isinstance; its attributes are not assigned."""
    for file in package.files:
        for node in file.of(ast.Name):
            if node.id in package.class_names and not is_class_use(node):
                yield fault(file, node, f"the class {node.id} as a value")
            tops = {name for name, _ in top_names(file)}
            if node.id in tops and isinstance(node.parent, ast.Attribute) and isinstance(node.parent.ctx, ast.Store):
                yield fault(file, node, "an attribute of a class or of a name at module level")


def is_class_use(node):
    """Whether the name of a class stands where L18 lets it."""
    parent = node.parent
    if isinstance(parent, ast.Tuple):
        node, parent = parent, parent.parent
    if isinstance(parent, ast.Call):
        return parent.func is node or getattr(parent.func, "id", None) == "isinstance" and parent.args[1] is node
    if isinstance(parent, (ast.ClassDef, ast.Raise, ast.ExceptHandler, ast.arg, ast.MatchClass, ast.Attribute)):
        return True
    if isinstance(parent, ast.Compare):
        return isinstance(parent.left, ast.Call) and getattr(parent.left.func, "id", None) == "type"
    if isinstance(parent, FUNCTIONS):
        return parent.returns is node
    return isinstance(parent, ast.Subscript) and parent.slice is node or isinstance(parent, ast.BinOp)


def members(package):
    """L18, L26: names of methods and attributes, and that attributes which are read are assigned somewhere."""
    stored = {inner.attr for file in package.files for inner in file.of(ast.Attribute) if isinstance(inner.ctx, ast.Store)}
    values = {target.id for node in package.classes for inner in node.body if isinstance(inner, ast.Assign)
              for target in inner.targets}
    for file in package.files:
        for node in file.of(*FUNCTIONS):
            if is_method(node) and node.name in NO_METHODS and node.name not in STRING_METHODS:
                yield fault(file, node, f"the method {node.name}")
        for node in file.of(ast.Attribute):
            word = node.attr
            if isinstance(node.ctx, ast.Store) and word in NO_METHODS and word not in ATTRIBUTES_LIKE_METHODS:
                yield fault(file, node, f"the attribute {word}")
            called = isinstance(node.parent, ast.Call) and node.parent.func is node
            known = word in stored | values | package.methods or word in ("__class__", "__name__", "setter")
            of_sys = getattr(node.value, "id", None) == "sys"
            if isinstance(node.ctx, ast.Load) and not called and not known and not of_sys:
                yield fault(file, node, f"the attribute {word} that no class assigns")


def errors(package):
    """L19: what is caught and what is raised."""
    own = package.error_names & package.class_names
    for file in package.files:
        for node in file.of(ast.Try):
            for handler in node.handlers:
                caught = handler.type.elts if isinstance(handler.type, ast.Tuple) else [handler.type]
                words = [getattr(one, "id", None) for one in caught]
                if not words or any(word not in own and word not in CAUGHT_FREELY + CAUGHT_NARROWLY for word in words):
                    yield fault(file, handler, "what is caught")
                if any(word in CAUGHT_NARROWLY for word in words):
                    yield from (fault(file, inner, "what a try contains") for statement in node.body
                                for inner in ast.walk(statement) if is_wide(inner))
        for node in file.of(ast.Raise):
            if node.exc is None:
                continue
            word = getattr(getattr(node.exc, "func", None), "id", None)
            if word not in package.error_names:
                yield fault(file, node, "what is raised")
            if node.cause is not None and not isinstance(node.cause, (ast.Name, ast.Call, ast.Constant)):
                yield fault(file, node, "what an error is raised from")
        for node in package.classes:
            if bases_of(node) & package.error_names and any(isinstance(inner, ast.Assign) for inner in node.body):
                yield f"{node.name}: a value in an error class"


def is_wide(node):
    """Whether the node does not stand in a try that catches one of Python's own errors of values."""
    if isinstance(node, ast.Call) and isinstance(node.func, ast.Name):
        return node.func.id not in CALLED_IN_NARROW_TRY
    return isinstance(node, (ast.Lambda, ast.With, ast.Match, ast.NamedExpr, ast.GeneratorExp, ast.Pow, ast.Mod))


def underscores(package):
    """L28: what the methods with double underscores return."""
    for file in package.files:
        for node in file.of(*FUNCTIONS):
            returns = [inner for inner in ast.walk(node) if isinstance(inner, ast.Return)]
            if node.name == "__init__" and any(inner.value is not None for inner in returns):
                yield fault(file, node, "__init__ returns something")
            if node.name in TAKING_ONE_SIZE and not isinstance(node.body[-1], ast.Return):
                yield fault(file, node, f"{node.name} does not end in a return")
            if node.name in TAKING_ONE_SIZE + ("__eq__",):
                stored = [inner for inner in ast.walk(node) if isinstance(inner, ast.Attribute)
                          and isinstance(inner.ctx, (ast.Store, ast.Del))]
                yield from (fault(file, inner, f"{node.name} assigns") for inner in stored)
        for node in file.of(ast.Attribute):
            inside = function_around(node)
            if node.attr == "__init__" and getattr(inside, "name", None) != "__init__":
                yield fault(file, node, "__init__ is called elsewhere")


def counts_of_arguments(package):
    """L22: functions and classes of the package are passed what they take."""
    takes = {}
    for file in package.files:
        for node in file.tree.body:
            if isinstance(node, FUNCTIONS):
                takes[node.name] = (node.args, 0)
            if isinstance(node, ast.ClassDef):
                made = [inner for inner in node.body if getattr(inner, "name", None) == "__init__"]
                if made:
                    takes[node.name] = (made[0].args, 1)
    for file in package.files:
        nested = {node.name for node in file.of(*FUNCTIONS) if function_around(node) is not None}
        for node in file.calls(*takes):
            if node.func.id in nested:
                continue
            taken, own = takes[node.func.id]
            most = len(taken.posonlyargs + taken.args + taken.kwonlyargs) - own
            least = most - len(taken.defaults) - sum(one is not None for one in taken.kw_defaults)
            stars = any(isinstance(one, ast.Starred) for one in node.args) or any(one.arg is None for one in node.keywords)
            many = len(node.args) + len(node.keywords)
            if not stars and not taken.vararg and not taken.kwarg and not least <= many <= most:
                yield fault(file, node, f"{node.func.id} is passed {many} values")


RULES = {
    "L15 bound once": bound_once,
    "L15 read only": read_only,
    "L18 uses of classes": class_uses,
    "L18, L26 members": members,
    "L18, L19 errors": errors,
    "L28": underscores,
    "L22 arguments": counts_of_arguments,
}
