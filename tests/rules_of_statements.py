"""The rules of ../shared/LANGUAGE.md about parameters, classes, statements and expressions (L3 to L7, L12, L13, L18)."""

import ast
import re

from package_files import FUNCTIONS, bases_of, called, fault, function_around, inside, is_method, word
from rules_of_files import METHODS_WITH_UNDERSCORES, top_names

LARGEST = 50000
COMPARISONS = "__eq__ __ne__ __lt__ __le__ __gt__ __ge__".split()
UNARY = "__neg__ __pos__ __invert__ __abs__ __bool__".split()
NO_OPERATORS = "__init__ __repr__ __str__ __len__ __enter__ __exit__ __iter__ __call__".split()
CHANGING = ("append", "clear", "extend", "insert", "pop", "remove", "reverse", "setdefault", "update", "sort", "add",
            "discard")
FORMAT = re.compile(r"([ -~]?[<>=^])?[+\- ]?#?0?[0-9]{0,2}[,_]?(\.[0-9]{1,2})?[dsxXob]?\Z")


def values(package):
    """L3: every expression at module level can be computed, and its value is not too large."""
    for file in package.files:
        known = {}
        for node in file.tree.body:
            if isinstance(node, ast.Assign) and isinstance(node.targets[0], ast.Name):
                try:
                    value = computed(node.value, known)
                    known[node.targets[0].id] = value
                    if size(value) > LARGEST:
                        yield fault(file, node, "too large")
                except (ArithmeticError, TypeError, ValueError, MemoryError):
                    yield fault(file, node, "cannot be computed")
            if isinstance(node, ast.Assign) and word(node.value) in known and size(known[node.value.id]) and isinstance(
                    known[node.value.id], (list, dict)):
                yield fault(file, node, "another name for a list or dict")


def computed(node, known):
    """The value of an expression at module level. Functions in tables count as None."""
    if isinstance(node, ast.BinOp):
        left, right = computed(node.left, known), computed(node.right, known)
        if isinstance(node.op, (ast.Pow, ast.LShift)) and isinstance(right, int) and abs(right) > LARGEST:
            raise ValueError(right)
        if isinstance(node.op, ast.Mult) and max(many(left) * size(right), many(right) * size(left)) > LARGEST * 20:
            raise ValueError(right)
        expression = ast.Expression(ast.BinOp(ast.Name("left", ast.Load()), node.op, ast.Name("right", ast.Load())))
        return eval(compile(ast.fix_missing_locations(expression), "", "eval"), {"left": left, "right": right})
    if isinstance(node, (ast.List, ast.Tuple)):
        parts = [computed(part, known) for part in node.elts]
        return parts if isinstance(node, ast.List) else tuple(parts)
    if isinstance(node, ast.Dict):
        return {computed(key, known): computed(part, known) for key, part in zip(node.keys, node.values)}
    if isinstance(node, ast.Name):
        return known.get(node.id)
    return ast.literal_eval(node)


def many(value):
    """How often a value may be repeated by this one."""
    return abs(value) if isinstance(value, int) else 0


def size(value):
    """The characters, bits or items of a value."""
    if isinstance(value, (list, tuple, dict, str, bytes)):
        return len(value)
    return value.bit_length() if isinstance(value, int) else 0


def parameters(package):
    """L4, L12: which parameters functions and methods have, and their default values."""
    for file in package.files:
        for node in file.of(*FUNCTIONS):
            told = node.args
            nested = function_around(node) is not None
            method = is_method(node)
            static = [word(one) for one in node.decorator_list] == ["staticmethod"]
            special = node.name.startswith("__") and node.name not in ("__init__", "__exit__")
            starred = [one for one in (told.vararg, told.kwarg) if one is not None]
            if any(one.annotation is not None for one in starred):
                yield fault(file, node, "an annotation of *rest")
            if told.posonlyargs and (method or nested or told.kwarg):
                yield fault(file, node, "a slash")
            if method and not static and (not told.args or told.args[0].arg == "_"):
                yield fault(file, node, "no plain first parameter")
            if special and method and (starred or told.kwonlyargs):
                yield fault(file, node, "a star in a method with underscores")
            if node.name == "_":
                yield fault(file, node, "the name _")
            plain = not nested and (not method or isinstance(node.parent.parent, ast.Module))
            for default in told.defaults + [one for one in told.kw_defaults if one is not None]:
                if not is_default(default, plain):
                    yield fault(file, node, "a default value")
        for node in file.of(ast.Lambda):
            if not all(is_default(default, False) for default in node.args.defaults):
                yield fault(file, node, "a default value of a lambda")
        for name, node in top_names(file):
            if name == "_":
                yield fault(file, node, "the name _")


def is_default(node, at_module_level):
    """Whether the default value is plain, or an expression over names at module level."""
    if isinstance(node, ast.Tuple):
        return all(is_default(part, at_module_level) for part in node.elts)
    if isinstance(node, ast.UnaryOp):
        return isinstance(node.op, ast.USub) and is_default(node.operand, at_module_level)
    if isinstance(node, ast.BinOp) and at_module_level:
        return not isinstance(node.op, (ast.Div, ast.MatMult)) and all(
            is_default(part, True) for part in (node.left, node.right))
    return isinstance(node, ast.Constant) or isinstance(node, ast.Name) and at_module_level


def class_parts(package):
    """L5, L18: what stands in a class, beside the names that rules_of_syntax looks at."""
    for file in package.files:
        above = {name.name for node in file.of(ast.ImportFrom) for name in node.names}
        for node in file.of(ast.ClassDef):
            if any(base in package.class_names - above for base in bases_of(node)):
                yield fault(file, node, "a base that is not defined above")
            if len(node.bases) != len(bases_of(node)):
                yield fault(file, node, "a base twice")
            above.add(node.name)
            yield from (fault(file, node, words) for words in class_value_faults(package, node))
            yield from (fault(file, node, words) for words in method_set_faults(package, node))
        for node in file.of(*FUNCTIONS):
            if is_method(node):
                yield from (fault(file, node, words) for words in method_faults(package, node))
        for node in file.of(ast.Name):
            in_method = getattr(function_around(node), "name", "") in METHODS_WITH_UNDERSCORES
            if node.id == "NotImplemented" and not (in_method and isinstance(node.parent, ast.Return)):
                yield fault(file, node, "NotImplemented")
        for node in file.of(ast.Name):
            if node.id == "__name__" and not (file.path == "__main__.py" and function_around(node) is None):
                yield fault(file, node, "__name__")
        for node in file.of(ast.Attribute):
            named = getattr(node.parent, "attr", None) == "__name__"
            local = isinstance(node.value, (ast.Name, ast.Attribute)) and word(node.value) not in (
                package.functions | package.class_names)
            if node.attr == "__class__" and not (named and local) or node.attr == "__name__" and not (
                    getattr(node.value, "attr", None) == "__class__" or called(node.value) == "type"):
                yield fault(file, node, node.attr)


def class_value_faults(package, node):
    """What is wrong with the values in the body of a class."""
    seen = {inner.name for inner in node.body if isinstance(inner, FUNCTIONS)}
    stored = {inner.attr for inner in ast.walk(node) if isinstance(inner, ast.Attribute)
              and isinstance(inner.ctx, ast.Store)}
    for inner in [inner for inner in node.body if isinstance(inner, ast.Assign)]:
        name = word(inner.targets[0])
        if len(inner.targets) > 1 or name is None or name in seen or name in stored:
            yield f"the value {name}"
        seen.add(name)
        if any(isinstance(part, (ast.List, ast.Dict, ast.Set)) for part in list(ast.walk(inner.value))[1:]) or any(
                isinstance(part, (ast.BinOp, ast.Name, ast.Call)) for part in ast.walk(inner.value)):
            yield f"the value {name} is not literal"
        if name == "__slots__":
            names = [getattr(part, "value", "") for part in getattr(inner.value, "elts", [None])]
            if len(set(names)) < len(names) or not all(re.fullmatch("_?[a-z][a-z0-9_]*", str(part)) for part in names):
                yield "__slots__"
        elif name is not None and name.startswith("__"):
            yield f"the value {name}"


def method_set_faults(package, node):
    """What is wrong with the methods of a class taken together."""
    family = [node] + [one for one in package.classes if one.name in bases_of(node)]
    methods = {inner.name for one in family for inner in one.body if isinstance(inner, FUNCTIONS)}
    if "__getitem__" in methods and "__iter__" not in methods:
        yield "__getitem__ without __iter__"
    if ("__enter__" in methods) != ("__exit__" in methods):
        yield "__enter__ or __exit__ alone"
    own = {inner.name for inner in node.body if isinstance(inner, FUNCTIONS)}
    above = [one for one in family if one is not node]
    stored = [{inner.attr for inner in ast.walk(one) if isinstance(inner, ast.Attribute) and word(inner.value) == "self"
               and isinstance(inner.ctx, ast.Store)} for one in family]
    for other, attributes in zip(above, stored[1:]):
        if attributes & own or stored[0] & {inner.name for inner in other.body if isinstance(inner, FUNCTIONS)}:
            yield "a name that is a method and an attribute in one family"
    if bases_of(node) & package.error_names:
        if any(inner.decorator_list for inner in node.body if isinstance(inner, FUNCTIONS)):
            yield "a decorator in an error class"
        if own & set(METHODS_WITH_UNDERSCORES) - {"__init__", "__str__", "__repr__"}:
            yield "an operator in an error class"


def method_faults(package, node):
    """What is wrong with one method."""
    names = [one.arg for one in node.args.args]
    kind = word(node.decorator_list[0]) if node.decorator_list else None
    setter = bool(node.decorator_list) and isinstance(node.decorator_list[0], ast.Attribute)
    if node.name in METHODS_WITH_UNDERSCORES and node.name not in NO_OPERATORS:
        if len(names) != (1 if node.name in UNARY else 3 if node.name == "__setitem__" else 2) or node.args.defaults:
            yield "parameters of an operator"
    if kind == "property" and len(names) != 1 or setter and len(names) != 2:
        yield "parameters of a property"
    quiet = node.name in COMPARISONS + UNARY + ["__contains__", "__getitem__", "__add__", "__sub__", "__mul__"]
    if quiet or kind == "property":
        for inner in ast.walk(node):
            if isinstance(inner, (ast.Attribute, ast.Subscript)) and isinstance(inner.ctx, (ast.Store, ast.Del)):
                if not any(isinstance(one, ast.If) for one in inside(inner, node)) or isinstance(
                        inner.value, ast.Name) and inner.value.id != names[0]:
                    yield "a change"
            if isinstance(inner, ast.Call) and isinstance(inner.func, ast.Attribute) and inner.func.attr in CHANGING:
                if isinstance(inner.func.value, ast.Attribute):
                    yield "a change"
    if kind in ("staticmethod", "classmethod") and any(
            word(inner) == "super" or isinstance(inner, (ast.Yield, ast.YieldFrom)) for inner in ast.walk(node)):
        yield "super or yield in a static or class method"
    body = node.body[1:] if isinstance(node.body[0], ast.Expr) and isinstance(node.body[0].value, ast.Constant) else node.body
    if node.name == "__iter__" and not (len(body) == 1 and is_iter_body(body[0])):
        yield "__iter__"
    if node.name == "__bool__":
        kinds = (ast.Compare, ast.BoolOp, ast.UnaryOp, ast.IfExp)
        for inner in [inner for inner in ast.walk(node) if isinstance(inner, ast.Return)]:
            if not isinstance(inner.value, kinds) and called(inner.value) not in ("bool", "isinstance", "any", "all") and (
                    getattr(inner.value, "value", None) not in (True, False) or isinstance(inner.value.value, int) and
                    not isinstance(inner.value.value, bool)):
                yield "__bool__"


def is_iter_body(node):
    """Whether the statement is one of those that an __iter__ consists of."""
    if isinstance(node, ast.Return):
        return called(node.value) == "iter" and not isinstance(node.value.args[0], ast.Name)
    if isinstance(node, ast.For):
        return len(node.body) == 1 and isinstance(getattr(node.body[0], "value", None), ast.Yield)
    return isinstance(node, ast.Raise) or isinstance(getattr(node, "value", None), ast.YieldFrom)


def statements(package):
    """L6: del, nonlocal, global, loops, with, match, and targets with stars."""
    for file in package.files:
        for node in file.of(ast.Delete):
            for target in node.targets:
                if isinstance(target, (ast.Tuple, ast.List, ast.Attribute)) or isinstance(target, ast.Name) and (
                        target.id not in names_assigned(function_around(node))):
                    yield fault(file, node, "del")
        for node in file.of(ast.Global, ast.Nonlocal):
            yield from (fault(file, node, words) for words in shared_name_faults(file, node))
        for node in file.of(ast.For, ast.comprehension):
            if any(isinstance(inner, (ast.Attribute, ast.Subscript)) for inner in ast.walk(node.target)):
                yield f"{file.path}: a loop that assigns to what is no name"
        for node in file.of(ast.With):
            for item in node.items:
                if not isinstance(item.context_expr, (ast.Call, ast.Name, ast.Attribute)) or not (
                        item.optional_vars is None or isinstance(item.optional_vars, ast.Name)):
                    yield fault(file, node, "with")
            if not any(getattr(inner, "name", None) == "__exit__" for one in package.classes for inner in one.body):
                yield fault(file, node, "with and no class for it")
        for node in file.of(ast.match_case):
            for inner in ast.walk(node.pattern):
                if not is_pattern(package, inner):
                    yield f"{file.path}: a pattern"
        for node in file.of(ast.Try):
            for inner in node.finalbody:
                if not is_final(inner):
                    yield fault(file, inner, "a statement in a finally")
        for node in file.of(ast.Assign):
            star = any(isinstance(inner, ast.Starred) for target in node.targets for inner in ast.walk(target))
            views = called(node.value) in ("zip", "range", "enumerate", "reversed", "map") or getattr(
                getattr(node.value, "func", None), "attr", None) in ("items", "keys", "values")
            if star and views:
                yield fault(file, node, "a star over a view")


def names_assigned(function):
    """The names that a function assigns, its parameters among them."""
    told = function.args
    names = {one.arg for one in told.posonlyargs + told.args + told.kwonlyargs}
    return names | {inner.id for inner in ast.walk(function) if isinstance(inner, ast.Name)
                    and isinstance(inner.ctx, ast.Store)}


def shared_name_faults(file, node):
    """What is wrong with a global or nonlocal statement."""
    function = function_around(node)
    if function is None:
        return ["outside of functions"]
    body = function.body[1:] if isinstance(function.body[0], ast.Expr) else function.body
    faults = [] if node in body[:1] or isinstance(node, ast.Nonlocal) and node in body[:len(node.names)] else ["not first"]
    if isinstance(node, ast.Nonlocal):
        around = function_around(function)
        if around is None or any(name not in names_assigned(around) for name in node.names):
            faults.append("no variable of a function around it")
        return faults
    plain = {word(one.targets[0]) for one in file.tree.body if isinstance(one, ast.Assign)
             and isinstance(one.value, ast.Constant)}
    if function_around(function) is not None or function.name.startswith("__") or set(node.names) - plain:
        faults.append("a global name that is no plain value, or in a function of its own kind")
    return faults


def is_pattern(package, node):
    """Whether the node may stand in a pattern."""
    if isinstance(node, ast.MatchClass):
        name = word(node.cls)
        if name in ("int", "str", "bool", "list", "tuple", "dict"):
            return not node.patterns and not node.kwd_patterns
        return name in package.class_names - package.error_names and not node.patterns
    if isinstance(node, ast.MatchValue):
        value = node.value.operand if isinstance(node.value, ast.UnaryOp) else node.value
        return isinstance(value, ast.Constant) and isinstance(value.value, (int, str)) and "__" not in str(value.value)
    return not isinstance(node, ast.MatchMapping)


def is_final(node):
    """Whether the statement may stand in a finally."""
    if isinstance(node, ast.If):
        return is_final_test(node.test) and all(is_final(inner) for inner in node.body + node.orelse)
    if isinstance(node, ast.Assign):
        sides = [node.targets[0], node.value]
        if len(node.targets) == 1 and all(isinstance(side, ast.Tuple) for side in sides):
            return all(is_simple(part) for side in sides for part in side.elts)
        return len(node.targets) == 1 and isinstance(sides[0], (ast.Name, ast.Attribute)) and is_simple(sides[1])
    if isinstance(node, ast.AugAssign):
        minus = isinstance(node.op, ast.Sub) and isinstance(node.value, ast.Constant)
        return isinstance(node.target, (ast.Name, ast.Attribute)) and (
            isinstance(node.op, ast.Add) and is_simple(node.value) or minus)
    if isinstance(node, ast.Expr) and isinstance(node.value, ast.Call):
        return getattr(node.value.func, "attr", None) in ("append", "clear") and all(
            is_simple(part) for part in node.value.args)
    return isinstance(node, ast.Pass)


def is_simple(node):
    """Whether the expression is one that a finally may contain."""
    if isinstance(node, (ast.List, ast.Tuple)):
        return all(is_simple(part) for part in node.elts)
    if isinstance(node, ast.BinOp):
        minus = isinstance(node.op, ast.Sub) and isinstance(node.right, ast.Constant)
        return is_simple(node.left) and (minus or isinstance(node.op, ast.Add) and is_simple(node.right))
    if isinstance(node, ast.Attribute):
        return is_simple(node.value)
    return isinstance(node, (ast.Name, ast.Constant))


def is_final_test(node):
    """Whether the test is one that a finally may contain."""
    if isinstance(node, ast.BoolOp):
        return all(is_final_test(part) for part in node.values)
    if isinstance(node, ast.UnaryOp):
        return isinstance(node.op, ast.Not) and is_final_test(node.operand)
    if isinstance(node, ast.Compare):
        return is_simple(node.left) and len(node.ops) == 1 and isinstance(node.comparators[0], ast.Constant)
    return isinstance(node, (ast.Name, ast.Attribute))


def expressions(package):
    """L7, L13: f-strings, :=, literals that are called or indexed, and lambdas of one statement."""
    for file in package.files:
        for node in file.of(ast.FormattedValue):
            spec = node.format_spec.values if node.format_spec is not None else []
            text = "".join(str(getattr(part, "value", "9")) if isinstance(part, ast.Constant) else "9" for part in spec)
            if node.conversion == ord("a") or not FORMAT.match(text):
                yield fault(file, node, "a format")
            for part in [part for part in spec if isinstance(part, ast.FormattedValue)]:
                if called(part.value) not in ("len", "max") and not is_width(part.value):
                    yield fault(file, node, "a width")
        for node in file.of(ast.NamedExpr):
            yield from (fault(file, node, words) for words in walrus_faults(node))
        for node in file.of(ast.Call):
            if isinstance(node.func, ast.Constant):
                yield fault(file, node, "a literal that is called")
        for node in file.of(ast.Subscript):
            if isinstance(node.value, (ast.List, ast.Tuple, ast.Constant)) and not has_index(node):
                yield fault(file, node, "a literal without this index")
            if any(isinstance(inner, ast.Starred) for inner in getattr(node.slice, "elts", [])):
                yield fault(file, node, "a star in an index")
        for node in file.of(ast.Constant):
            if node.value is Ellipsis and not any(isinstance(one, (ast.arg, ast.AnnAssign)) for one in inside(node, None)):
                if not isinstance(node.parent, (ast.Tuple, ast.Subscript)):
                    yield fault(file, node, "...")
        for node in file.of(ast.stmt):
            lambdas = [inner for inner in own_expressions(node) if isinstance(inner, ast.Lambda)]
            named = {}
            for inner in lambdas:
                key = str([one.arg for one in inner.args.args])
                defaults = [ast.dump(one) for one in inner.args.defaults]
                if named.setdefault(key, defaults) != defaults:
                    yield fault(file, node, "two lambdas with other default values")


def own_expressions(statement):
    """The expressions of a statement without those of the statements in it."""
    found = [child for child in ast.iter_child_nodes(statement) if not isinstance(child, ast.stmt)]
    for node in found:
        found.extend(child for child in ast.iter_child_nodes(node) if not isinstance(child, ast.stmt))
    return found


def is_width(node):
    """Whether the width of a format surely is an integer: a literal, or a local name that is assigned once."""
    if isinstance(node, ast.Name):
        stored = [inner for inner in ast.walk(function_around(node)) if word(inner) == node.id
                  and isinstance(inner.ctx, ast.Store)]
        return len(stored) == 1 and isinstance(stored[0].parent, ast.Assign)
    return isinstance(node, ast.Constant) and isinstance(node.value, int)


def walrus_faults(node):
    """What is wrong with one := expression."""
    function = function_around(node)
    around = inside(node, function)
    tested = any(isinstance(one, (ast.If, ast.While)) and (node is one.test or one.test in around) for one in around)
    filtered = any(isinstance(one, ast.comprehension) and any(node is test or test in around for test in one.ifs)
                   for one in around)
    barred = (ast.GeneratorExp, ast.JoinedStr, ast.Assert, ast.match_case)
    if function is None or isinstance(function, ast.Lambda) or any(isinstance(one, barred) for one in around):
        return ["where := may not stand"]
    faults = [] if tested or filtered else ["neither in a test nor in a comprehension"]
    if node.target.id in [one.arg for one in function.args.args + function.args.kwonlyargs]:
        faults.append("a parameter")
    return faults


def has_index(node):
    """Whether a literal has the literal index that it is asked for."""
    value = node.value
    if isinstance(value, ast.Constant) and not isinstance(value.value, (str, bytes)):
        return False
    many_parts = len(value.value) if isinstance(value, ast.Constant) else len(value.elts)
    at = node.slice.operand if isinstance(node.slice, ast.UnaryOp) else node.slice
    if isinstance(at, ast.Constant):
        return isinstance(at.value, int) and -many_parts <= (-at.value if at is not node.slice else at.value) < many_parts
    return True


RULES = {
    "L3 values": values,
    "L4, L12 parameters": parameters,
    "L5, L18 parts of classes": class_parts,
    "L6 statements": statements,
    "L7, L13 expressions": expressions,
}
