"""The rules of ../shared/LANGUAGE.md about statements, expressions and calls of builtins, by what the code shows.

Further conditions of the same rules stand in rules_of_statements and rules_of_calls.
"""

import ast
import builtins

from package_files import BASE_ERRORS, COMPREHENSIONS, FUNCTIONS, bases_of, called, fault, function_around, is_method
from rules_of_files import METHODS_WITH_UNDERSCORES

STATEMENTS = ("FunctionDef ClassDef Return Delete Assign AugAssign AnnAssign For While If With Match Raise Try Assert "
              "Import ImportFrom Global Nonlocal Expr Pass Break Continue").split()
EXPRESSIONS = ("BoolOp NamedExpr BinOp UnaryOp Lambda IfExp Dict Set ListComp SetComp DictComp GeneratorExp Yield "
               "YieldFrom Compare Call FormattedValue JoinedStr Constant Attribute Subscript Starred Name List Tuple "
               "Slice").split()
BARRED_OPERATORS = (ast.Div, ast.MatMult)
CALLED = ("len range enumerate zip min max sum abs sorted reversed int str bool list tuple dict set isinstance ord "
          "repr any all divmod pow iter next map getattr hasattr setattr type super").split()
NAMED = ("int", "str", "bool", "bytes", "list", "tuple", "dict", "set", "object", "float", "property",
         "staticmethod", "classmethod", "NotImplemented") + BASE_ERRORS
KEYWORDS = {"sorted": ("key", "reverse"), "min": ("key", "default"), "max": ("key", "default"), "sum": ("start",),
            "enumerate": ("start",), "zip": ("strict",)}
KEY_FUNCTIONS = ("len", "int", "str", "abs", "sum", "min", "max", "tuple")
PRODUCTS = ("product", "combinations", "permutations")
TAKERS = ("list", "tuple", "dict", "sorted", "sum", "any", "all", "min", "max")
STRING_METHODS = (
    "append clear copy count endswith extend find get index insert isalnum isalpha isdigit islower isspace isupper "
    "items join keys ljust lower lstrip partition pop remove replace reverse rfind rjust rpartition rsplit rstrip "
    "setdefault split splitlines startswith strip update upper values zfill bit_length title capitalize swapcase "
    "casefold center expandtabs removeprefix removesuffix rindex isascii isdecimal isnumeric istitle isidentifier "
    "isprintable translate sort format encode decode hex add discard appendleft popleft extendleft rotate "
    "from_iterable maketrans").split()
CHANGING = ("append", "clear", "extend", "insert", "pop", "remove", "reverse", "setdefault", "update", "sort", "add",
            "discard")
VIEWS = ("items", "keys", "values")


def node_kinds(package):
    """L6, L7: statements, expressions and operators."""
    for file in package.files:
        for node in file.nodes:
            kind = node.__class__.__name__
            if isinstance(node, ast.stmt) and kind not in STATEMENTS:
                yield fault(file, node, f"a statement {kind}")
            if isinstance(node, ast.expr) and kind not in EXPRESSIONS:
                yield fault(file, node, f"an expression {kind}")
            if isinstance(node, BARRED_OPERATORS):
                yield f"{file.path}: an operator {kind}"
            if isinstance(node, ast.comprehension) and node.is_async:
                yield f"{file.path}: async"
            if isinstance(node, ast.Delete) and any(isinstance(one, (ast.Attribute, ast.Tuple)) for one in node.targets):
                yield fault(file, node, "del of an attribute, or in parentheses")
            if isinstance(node, ast.AugAssign) and is_slice(node.target):
                yield fault(file, node, "an operator with = on a slice")
            if isinstance(node, ast.Assert) and isinstance(node.test, ast.Tuple):
                yield fault(file, node, "an assertion of a tuple")
            if isinstance(node, (ast.Nonlocal, ast.Assert, ast.Delete, ast.Match)) and function_around(node) is None:
                yield fault(file, node, "outside of all functions")


def is_slice(node):
    """Whether the node is a part of a list by a slice."""
    return isinstance(node, ast.Subscript) and isinstance(node.slice, ast.Slice)


def module_level(package):
    """L3: what stands outside of functions and classes."""
    for file in package.files:
        for k, node in enumerate(file.tree.body):
            docstring = k == 0 and isinstance(node, ast.Expr) and is_text(node.value)
            plain = isinstance(node, FUNCTIONS + (ast.ClassDef, ast.Import, ast.ImportFrom))
            main = file.path == "__main__.py" and isinstance(node, ast.If) and node is file.tree.body[-1]
            if not (docstring or plain or main) and not is_plain_assignment(node):
                yield fault(file, node, "a statement at module level")
        for node in file.tree.body:
            nested = [inner for inner in ast.walk(node) if isinstance(inner, (ast.List, ast.Dict, ast.Tuple))]
            if isinstance(node, ast.Assign) and any(isinstance(inner, (ast.List, ast.Dict)) for inner in nested[1:]):
                yield fault(file, node, "a list or dict within another one")


def is_text(node):
    """Whether the node is a literal string."""
    return isinstance(node, ast.Constant) and isinstance(node.value, str)


def is_plain_assignment(node):
    """Whether the statement gives one name a plain value."""
    if isinstance(node, ast.Assign):
        targets = node.targets
    elif isinstance(node, ast.AnnAssign) and node.value is not None:
        targets = [node.target]
    else:
        return False
    plain = (ast.Constant, ast.List, ast.Tuple, ast.Dict, ast.UnaryOp, ast.BinOp, ast.Name, ast.operator, ast.unaryop,
             ast.expr_context)
    return len(targets) == 1 and isinstance(targets[0], ast.Name) and all(
        isinstance(inner, plain) for inner in ast.walk(node.value))


def functions(package):
    """L4: decorators, parameters and default values."""
    for file in package.files:
        for node in file.of(*FUNCTIONS):
            for decorator in node.decorator_list:
                known = isinstance(decorator, ast.Name) and decorator.id in ("property", "staticmethod", "classmethod")
                setter = isinstance(decorator, ast.Attribute) and decorator.attr == "setter"
                if not is_method(node) or not (known or setter) or len(node.decorator_list) > 1:
                    yield fault(file, node, "a decorator")
            for default in node.args.defaults + [one for one in node.args.kw_defaults if one is not None]:
                if any(isinstance(inner, (ast.Call, ast.List, ast.Dict, ast.Set)) for inner in ast.walk(default)):
                    yield fault(file, node, "a default value that is not plain")
        for node in file.of(ast.Lambda):
            if node.args.vararg or node.args.kwarg or node.args.kwonlyargs or node.args.posonlyargs:
                yield fault(file, node, "a star or a slash in a lambda")


def class_bodies(package):
    """L5, L15, L18: bases, bodies and methods of classes."""
    for file in package.files:
        for node in file.of(ast.ClassDef):
            if node.parent is not file.tree:
                yield fault(file, node, "a class that is not at module level")
            if node.decorator_list or node.keywords or len(bases_of(node)) != len(node.bases):
                yield fault(file, node, "a decorator or a keyword of a class, or a base that is no name")
            if not bases_of(node) <= package.class_names | package.error_names - {"StopIteration", "AttributeError"}:
                yield fault(file, node, "a base that is no class of the package and no error")
            for k, statement in enumerate(node.body):
                docstring = k == 0 and isinstance(statement, ast.Expr) and is_text(statement.value)
                if not docstring and not isinstance(statement, (ast.FunctionDef, ast.Assign, ast.Pass)):
                    yield fault(file, statement, "a statement in the body of a class")
            yield from (fault(file, node, words) for words in member_faults(node))
        for node in file.of(*FUNCTIONS):
            if node.name.startswith("__") and (not is_method(node) or node.name not in METHODS_WITH_UNDERSCORES):
                yield fault(file, node, f"the method {node.name}")


def member_faults(node):
    """What is wrong with the names of the methods and attributes of one class."""
    methods = [inner.name for inner in node.body if isinstance(inner, FUNCTIONS) and not inner.decorator_list]
    attributes = {inner.attr for inner in ast.walk(node) if isinstance(inner, ast.Attribute)
                  and isinstance(inner.ctx, ast.Store) and getattr(inner.value, "id", None) == "self"}
    if len(methods) != len(set(methods)):
        yield "a method that is defined twice"
    if attributes & set(methods):
        yield "a name that is a method and an attribute"


def builtin_names(package):
    """L8, L9, L22: only some builtins are used, and they are called, not kept."""
    for file in package.files:
        for node in file.of(ast.Name):
            word = node.id
            if not isinstance(node.ctx, ast.Load) or word not in dir(builtins) or word.startswith("__"):
                continue
            if file.path == "__main__.py" and word == "print":
                continue
            directly = isinstance(node.parent, ast.Call) and node.parent.func is node
            mapped = isinstance(node.parent, ast.Call) and getattr(node.parent.func, "id", None) == "map"
            key = isinstance(node.parent, ast.keyword) and word in KEY_FUNCTIONS
            key = key or called(node.parent) == "accumulate" and word in ("min", "max")
            if not (directly and word in CALLED or mapped or key or word in NAMED and not directly):
                if not (directly and word in package.error_names):
                    yield fault(file, node, f"the builtin {word}")
        for node in file.of(ast.Attribute):
            if getattr(node.value, "id", None) == "sys" and node.attr not in ("stdin", "stdout", "stderr", "argv", "exit"):
                yield fault(file, node, "sys")


def keywords(package):
    """L22: keywords of builtins and of their methods."""
    for file in package.files:
        for node in file.of(ast.Call):
            word = getattr(node.func, "id", None)
            given = [keyword.arg for keyword in node.keywords]
            if word in CALLED and word != "super" or word in BASE_ERRORS:
                if any(name not in KEYWORDS.get(word, ()) for name in given):
                    yield fault(file, node, f"a keyword of {word}")
            if isinstance(node.func, ast.Attribute) and node.func.attr in STRING_METHODS:
                # An own method of such a name takes keywords in the class that defines it.
                own = getattr(node.func.value, "id", None) == "self" and node.func.attr in package.methods
                if given and node.func.attr not in ("sort", "format") and not own:
                    yield fault(file, node, f"a keyword of {node.func.attr}")


def method_calls(package):
    """L7, L25: only some methods of builtin values are called."""
    for file in package.files:
        for node in file.of(ast.Call):
            if isinstance(node.func, ast.Attribute):
                word = node.func.attr
                attributes = {inner.attr for each in package.files for inner in each.of(ast.Attribute)
                              if isinstance(inner.ctx, ast.Store)}
                if word not in STRING_METHODS and word not in package.methods and word not in attributes:
                    yield fault(file, node, f"the method {word}")
                if word in ("to_bytes", "fromhex"):
                    yield fault(file, node, f"the method {word}")
        for node in file.calls("bytes", "chr", "bytearray", "memoryview", "frozenset"):
            yield fault(file, node, node.func.id)


def sets(package):
    """L13, L24: sets are asked, measured, sorted, or kept in one name; they are not iterated or passed on."""
    for file in package.files:
        for node in file.calls("set") + file.of(ast.Set, ast.SetComp):
            parent = node.parent
            while isinstance(parent, ast.BinOp):
                parent = parent.parent
            kept = isinstance(parent, ast.Assign) and isinstance(parent.targets[0], ast.Name)
            asked = isinstance(parent, ast.Compare) and parent.left is not node
            compared = isinstance(parent, ast.Compare) and isinstance(parent.ops[0], (ast.Eq, ast.NotEq))
            used = isinstance(parent, ast.Call) and getattr(parent.func, "id", None) in ("sorted", "len")
            if function_around(node) is None or not (kept or asked or compared or used):
                yield fault(file, node, "a set")
            if isinstance(node, ast.Set) and sum(is_integer(inner) for inner in ast.walk(node)) > 2 and not asked:
                yield fault(file, node, "a set of several integers")
        for node in file.of(*FUNCTIONS):
            for name in kept_sets(node):
                yield from (fault(file, use, f"the set {name}") for use in ast.walk(node)
                            if getattr(use, "id", None) == name and not is_set_use(use))


def is_integer(node):
    """Whether the node is a literal integer."""
    return isinstance(node, ast.Constant) and isinstance(node.value, int)


def kept_sets(function):
    """The names to which a function assigns sets."""
    made = [node for node in ast.walk(function) if isinstance(node, ast.Assign) and (
        isinstance(node.value, (ast.Set, ast.SetComp)) or getattr(getattr(node.value, "func", None), "id", "") == "set")]
    return {node.targets[0].id for node in made if isinstance(node.targets[0], ast.Name)}


def is_set_use(node):
    """Whether a name that holds a set stands where L24 lets it."""
    parent = node.parent
    if isinstance(parent, ast.Attribute):
        return parent.attr in ("add", "discard") and isinstance(parent.parent.parent, ast.Expr)
    if isinstance(parent, ast.Call):
        return getattr(parent.func, "id", None) in ("len", "sorted")
    return isinstance(parent, (ast.Assign, ast.Compare, ast.If, ast.While, ast.UnaryOp, ast.BoolOp, ast.IfExp))


def iterated_at_once(package):
    """L23: ranges, views and the like, and generator expressions, stand where they are iterated."""
    for file in package.files:
        views = [node for node in file.of(ast.Call) if isinstance(node.func, ast.Attribute) and node.func.attr in VIEWS]
        for node in file.calls("zip", "enumerate", "reversed", "range", "map") + views + file.of(ast.GeneratorExp):
            if not is_iterated(node):
                yield fault(file, node, "what is not iterated at once")


def is_iterated(node):
    """Whether the value of the node is iterated on the spot."""
    parent = node.parent
    if isinstance(parent, (ast.For, ast.comprehension)):
        return parent.iter is node
    if isinstance(parent, ast.Compare):
        return isinstance(parent.ops[0], (ast.In, ast.NotIn)) and not isinstance(node, ast.GeneratorExp)
    # What is kept in a name is held by the rules of iterators in rules_of_library.
    if isinstance(parent, ast.Assign):
        return called(node) != "map" and isinstance(parent.targets[0], ast.Name)
    if isinstance(parent, ast.Call) and node in parent.args:
        if called(parent) in ("min", "max") and len(parent.args) > 1:
            return False
        word = getattr(parent.func, "id", None)
        joined = isinstance(parent.func, ast.Attribute) and parent.func.attr == "join" and is_text(parent.func.value)
        if isinstance(node, ast.GeneratorExp):
            return joined or word in TAKERS or word == "next"
        ranged = word in ("len", "reversed") and called(node) == "range"
        measured = word == "len" and isinstance(node.func, ast.Attribute)
        return joined or ranged or measured or word in TAKERS + ("enumerate", "zip", "iter") + PRODUCTS
    return False


def changed_in_loops(package):
    """L23: what a loop goes over is not changed in it."""
    for file in package.files:
        for node in file.of(ast.For):
            source = node.iter
            while isinstance(source, ast.Call) and getattr(source.func, "id", None) in ("enumerate", "zip", "reversed"):
                source = source.args[0]
            if isinstance(source, ast.Call) and getattr(source.func, "attr", None) in VIEWS:
                source = source.func.value
            if isinstance(source, (ast.Name, ast.Attribute)):
                for inner in [inner for statement in node.body for inner in ast.walk(statement)]:
                    if changes(inner, ast.dump(source)):
                        yield fault(file, inner, "a change of what the loop goes over")


def changes(node, told):
    """Whether the node changes the list or dict that is written like the told one."""
    if isinstance(node, ast.Call) and isinstance(node.func, ast.Attribute) and node.func.attr in CHANGING:
        return ast.dump(node.func.value) == told
    if isinstance(node, ast.Subscript) and isinstance(node.ctx, (ast.Store, ast.Del)):
        return ast.dump(node.value) == told
    return isinstance(node, ast.AugAssign) and ast.dump(node.target).replace("Store", "Load") == told


def comprehensions(package):
    """L7: comprehensions stand in functions, and are not too long."""
    for file in package.files:
        for node in file.of(*COMPREHENSIONS):
            tests = sum(len(part.ifs) for part in node.generators)
            if function_around(node) is None or len(node.generators) > 6 or tests > 12:
                yield fault(file, node, "a comprehension")
            if any(isinstance(inner, ast.NamedExpr) for inner in ast.walk(node)) and isinstance(node, ast.GeneratorExp):
                yield fault(file, node, "an assignment in a generator expression")


def lambdas(package):
    """L13: two lambdas with the same parameters do not stand on one line."""
    for file in package.files:
        seen = []
        for node in file.of(ast.Lambda):
            place = (node.lineno, [parameter.arg for parameter in node.args.args])
            if place in seen:
                yield fault(file, node, "two lambdas on one line")
            seen.append(place)


def sameness(package):
    """L20: is and is not stand beside None, True and False."""
    for file in package.files:
        for node in file.of(ast.Compare):
            for operator, other in zip(node.ops, node.comparators):
                single = isinstance(other, ast.Constant) and (other.value is None or isinstance(other.value, bool))
                kind = isinstance(node.left, ast.Call) and getattr(node.left.func, "id", None) == "type"
                if isinstance(operator, (ast.Is, ast.IsNot)) and not single and not kind:
                    yield fault(file, node, "is")


def exponents(package):
    """L27: an exponent is a literal from 0 to 64, or the variable of a range of literals."""
    for file in package.files:
        ranged = {node.target.id for node in file.of(ast.For, ast.comprehension)
                  if isinstance(node.target, ast.Name) and getattr(getattr(node.iter, "func", None), "id", "") == "range"
                  and all(is_integer(argument) for argument in node.iter.args)}
        for node in file.of(ast.BinOp, ast.AugAssign):
            if isinstance(node.op, ast.Pow):
                power = node.right if isinstance(node, ast.BinOp) else node.value
                literal = is_integer(power) and 0 <= power.value <= 64
                if not literal and getattr(power, "id", None) not in ranged:
                    yield fault(file, node, "an exponent")


def annotations(package):
    """L21: what annotations contain."""
    allowed = ("int", "str", "bool", "list", "tuple", "dict", "set", "bytes", "object", "float", "deque")
    for file in package.files:
        found = [node.annotation for node in file.of(ast.arg, ast.AnnAssign) if node.annotation is not None]
        found.extend(node.returns for node in file.of(*FUNCTIONS) if node.returns is not None)
        for node in [inner for annotation in found for inner in ast.walk(annotation)]:
            if isinstance(node, ast.Name) and node.id not in allowed and node.id not in package.class_names:
                yield fault(file, node, "an annotation")
            if isinstance(node, ast.Constant) and node.value is not None and node.value is not Ellipsis:
                yield fault(file, node, "an annotation")
        for node in file.of(ast.AnnAssign):
            if node.value is None:
                yield fault(file, node, "an annotation without a value")


RULES = {
    "L6, L7 kinds of nodes": node_kinds,
    "L3, L15 module level": module_level,
    "L4": functions,
    "L5, L15, L18 classes": class_bodies,
    "L8, L9, L22 builtins": builtin_names,
    "L22 keywords": keywords,
    "L7, L25 methods": method_calls,
    "L13, L24 sets": sets,
    "L23 iterated at once": iterated_at_once,
    "L23 changed in loops": changed_in_loops,
    "L7 comprehensions": comprehensions,
    "L13 lambdas": lambdas,
    "L20": sameness,
    "L27 exponents": exponents,
    "L21": annotations,
}
