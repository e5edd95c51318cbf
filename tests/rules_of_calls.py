"""The rules of ../shared/LANGUAGE.md about calls, loops that change what they go over, errors and strings.

They go beyond what rules_of_syntax and rules_of_meaning look at (L7, L8, L19 to L23, L25 to L28).
"""

import ast
import io
import re
import tokenize
import warnings

from package_files import COMPREHENSIONS, FUNCTIONS, bases_of, called, fault, function_around, inside, is_docstring
from package_files import is_method, word
from rules_of_files import FRAME_NAMES
from rules_of_library import caught
from rules_of_meaning import CAUGHT_NARROWLY
from rules_of_syntax import CALLED, CHANGING, KEY_FUNCTIONS, NAMED, STRING_METHODS, VIEWS, changes

# The least and the greatest number of values that builtins, and methods of builtin values, are passed.
COUNTS = {"len": (1, 1), "abs": (1, 1), "ord": (1, 1), "repr": (1, 1), "sorted": (1, 1), "reversed": (1, 1),
          "any": (1, 1), "all": (1, 1), "sum": (1, 2), "divmod": (2, 2), "isinstance": (2, 2), "range": (1, 3),
          "enumerate": (1, 2), "int": (0, 2), "str": (0, 1), "bool": (0, 1), "list": (0, 1), "tuple": (0, 1),
          "dict": (0, 1), "set": (0, 1), "map": (2, 2), "pow": (3, 3), "hasattr": (2, 2), "setattr": (3, 3),
          "getattr": (2, 3), "iter": (1, 1), "next": (1, 2), "type": (1, 1)}
METHOD_COUNTS = {"append": (1, 1), "clear": (0, 0), "copy": (0, 0), "count": (1, 3), "endswith": (1, 3),
                 "extend": (1, 1), "find": (1, 3), "get": (1, 2), "index": (1, 3), "insert": (2, 2), "items": (0, 0),
                 "join": (1, 1), "keys": (0, 0), "ljust": (1, 2), "lower": (0, 0), "pop": (0, 2), "remove": (1, 1),
                 "replace": (2, 3), "reverse": (0, 0), "setdefault": (1, 2), "split": (0, 2), "startswith": (1, 3),
                 "strip": (0, 1), "update": (1, 1), "upper": (0, 0), "values": (0, 0), "zfill": (1, 1)}
OWN_METHOD_NAMES = (
    "append clear copy count endswith extend find get index insert isalnum isalpha isdigit islower isspace isupper "
    "items join keys ljust lower lstrip partition pop remove replace reverse rfind rjust rpartition rsplit rstrip "
    "setdefault split splitlines startswith strip update upper values zfill bit_length add discard").split()
BARRED_ATTRIBUTES = ("args", "format", "format_map", "mro")
KINDS = ("int", "str", "bool", "bytes", "list", "tuple", "dict")
TRY_METHODS = ("index remove get append pop strip lstrip rstrip upper lower isdigit isalpha isalnum isspace islower "
               "isupper startswith endswith find split replace ljust rjust zfill center join encode decode hex title "
               "capitalize swapcase casefold removeprefix removesuffix rindex isascii isdecimal isnumeric istitle "
               "isidentifier isprintable").split()
ONE_VALUE = ("find", "rindex", "startswith", "endswith")


def builtin_calls(package):
    """L8, L22: how many values builtins are passed, and which; keys; what stands in isinstance."""
    own = package.class_names | package.error_names
    for file in package.files:
        for node in file.calls(*COUNTS):
            least, most = COUNTS[node.func.id]
            starred = any(isinstance(one, ast.Starred) for one in node.args)
            if starred or not least <= len(node.args) <= most:
                yield fault(file, node, f"the values that {node.func.id} is passed")
        for node in file.calls("isinstance"):
            kinds = node.args[1].elts if isinstance(node.args[1], ast.Tuple) else [node.args[1]]
            if not all(word(one) in KINDS or word(one) in own for one in kinds):
                yield fault(file, node, "isinstance")
        for node in file.of(ast.Call):
            for keyword in node.keywords:
                literal = isinstance(keyword.value, ast.Constant) and isinstance(keyword.value.value, bool)
                if keyword.arg in ("reverse", "strict") and called(node) in ("sorted", "zip") and not literal:
                    yield fault(file, node, f"{keyword.arg} that is not literal")
                if keyword.arg == "default" and called(node) in ("min", "max") and len(node.args) != 1:
                    yield fault(file, node, "default beside several values")
                if keyword.arg == "key" and called(node) in ("sorted", "min", "max") and not is_key(package, keyword.value):
                    yield fault(file, node, "a key")
                if keyword.arg in ("self", "open", "input"):
                    yield fault(file, node, f"the keyword {keyword.arg}")
            yield from (fault(file, node, words) for words in star_faults(node))
        for node in file.calls("map"):
            first = node.args[0]
            known = word(first) in ("str", "len", "int", "repr", "abs", "bool", "ord") or word(first) in package.functions
            if not known and not (isinstance(first, ast.Lambda) and len(first.args.args) == 1):
                yield fault(file, node, "map")
        for node in file.calls("pow"):
            literal = isinstance(node.args[-1], ast.Constant)
            if len(node.args) != 3 or not literal or not all(is_surely_integer(one) for one in node.args[:2]):
                yield fault(file, node, "pow")
        yield from (fault(file, node, "getattr and its kin") for node in file.calls("getattr", "hasattr", "setattr")
                    if not is_attribute_name(node))
        yield from (fault(file, node, "type(..)") for node in file.calls("type") if not is_kind_asked(package, node))
        for node in file.of(ast.Name):
            kind = node.id in NAMED and node.id not in KEY_FUNCTIONS and node.id != "NotImplemented"
            if isinstance(node.ctx, ast.Load) and kind and is_value(node):
                yield fault(file, node, f"{node.id} as a value")


def is_key(package, node):
    """Whether the value may be a key: a function, a lambda, a method, or some builtins."""
    if isinstance(node, ast.Attribute):
        return node.attr in package.methods and node.attr not in STRING_METHODS or node.attr not in STRING_METHODS
    return isinstance(node, ast.Lambda) or isinstance(node, ast.Name) and (
        node.id in KEY_FUNCTIONS or node.id not in NAMED + tuple(CALLED))


def star_faults(node):
    """What is wrong with the stars of one call."""
    stars = [one for one in node.args if isinstance(one, ast.Starred)]
    doubled = [keyword for keyword in node.keywords if keyword.arg is None]
    name = called(node)
    if stars and name in CALLED and name not in ("max", "min", "zip") or name is None and stars and (
            getattr(node.func, "attr", None) in STRING_METHODS):
        yield "a star in a call of a builtin"
    if len(doubled) > 1 or doubled and len(node.keywords) > 1:
        yield "two stars twice, or beside a keyword"
    places = [(one.value.lineno, one.value.col_offset) for one in stars]
    if any((keyword.value.lineno, keyword.value.col_offset) < place for keyword in node.keywords for place in places):
        yield "a keyword before a star"


def is_surely_integer(node):
    """Whether the value surely is an integer that is not below 0."""
    return isinstance(node, ast.Constant) and isinstance(node.value, int) or called(node) in ("len", "int", "abs", "ord")


def is_attribute_name(node):
    """Whether the call names an attribute by a literal, of a local value."""
    name = getattr(node.args[1], "value", None) if len(node.args) > 1 else None
    literal = isinstance(name, str) and re.fullmatch("_?[a-z][a-z0-9_]*", name)
    default = len(node.args) < 3 or called(node) == "setattr" or isinstance(node.args[2], ast.Constant)
    statement = called(node) != "setattr" or isinstance(node.parent, ast.Expr)
    return bool(literal) and default and statement


def is_kind_asked(package, node):
    """Whether type(..) stands where L8 lets it."""
    parent = node.parent
    if isinstance(parent, ast.Attribute):
        return parent.attr == "__name__"
    if not isinstance(parent, ast.Compare) or len(parent.ops) > 1:
        return False
    others = [part for part in [parent.left] + parent.comparators if part is not node]
    kinds = others[0].elts if isinstance(others[0], ast.Tuple) else others
    return all(word(one) in KINDS + ("set",) or word(one) in package.class_names or called(one) == "type" for one in kinds)


def is_value(node):
    """Whether the name of an error class or a kind is returned, kept or passed on."""
    parent = node.parent
    if isinstance(parent, ast.Call):
        return node in parent.args and called(parent) not in ("isinstance", "defaultdict", "map")
    return isinstance(parent, (ast.Return, ast.Assign, ast.List, ast.Dict, ast.BinOp, ast.IfExp, ast.Starred))


def own_calls(package):
    """L22: keywords and numbers of values in calls of functions, classes and methods of the package."""
    functions, methods, classes = {}, {}, {}
    for node in [node for file in package.files for node in file.of(*FUNCTIONS)]:
        if is_method(node):
            methods.setdefault((node.parent.name, node.name), node.args)
        elif function_around(node) is None:
            functions[node.name] = node.args
    for node in package.classes:
        line = [node] + [one for one in package.classes if one.name in bases_of(node)]
        line += [one for each in line[1:] for one in package.classes if one.name in bases_of(each)]
        made = [inner for one in line for inner in one.body if getattr(inner, "name", None) == "__init__"]
        classes[node.name] = made[0].args if made else None
    for file in package.files:
        for node in file.calls(*functions):
            if not takes_keywords(node, functions[node.func.id]):
                yield fault(file, node, "a keyword that the function does not take, or takes twice")
        for node in file.calls(*classes):
            if classes[node.func.id] is None:
                if node.keywords or node.args and node.func.id not in package.error_names:
                    yield fault(file, node, "values for a class without an __init__")
            elif not takes_keywords(node, classes[node.func.id]):
                yield fault(file, node, "a keyword that the class does not take, or takes twice")
        for node in file.of(ast.Call):
            holder = [one.name for one in inside(node, None) if isinstance(one, ast.ClassDef)]
            if isinstance(node.func, ast.Attribute) and word(node.func.value) == "self" and holder:
                told = methods.get((holder[0], node.func.attr))
                if told is not None and not takes_many(node, told):
                    yield fault(file, node, f"the values that {node.func.attr} is passed")
            elif isinstance(node.func, ast.Attribute) and node.func.attr in METHOD_COUNTS and (
                    node.func.attr not in package.methods):
                least, most = METHOD_COUNTS[node.func.attr]
                if not least <= len(node.args) <= most:
                    yield fault(file, node, f"the values that {node.func.attr} is passed")


def takes_keywords(node, told):
    """Whether the function has parameters of the names of the keywords, which are not passed by position, too."""
    names = [one.arg for one in told.args]
    taken = names[:len(node.args)] if names[:1] != ["self"] else names[1:len(node.args) + 1]
    known = names + [one.arg for one in told.kwonlyargs]
    given = [keyword.arg for keyword in node.keywords if keyword.arg is not None]
    return told.kwarg is not None or all(name in known and name not in taken for name in given)


def takes_many(node, told):
    """Whether a method takes as many values as it is passed."""
    if any(isinstance(one, ast.Starred) for one in node.args) or any(one.arg is None for one in node.keywords):
        return True
    most = len(told.args) + len(told.kwonlyargs) - 1
    least = most - len(told.defaults) - sum(one is not None for one in told.kw_defaults)
    return told.vararg is not None or told.kwarg is not None or least <= len(node.args) + len(node.keywords) <= most


def loops(package):
    """L23: what loops and comprehensions go over is not changed in them, whichever way it is written."""
    for file in package.files:
        for node in file.of(ast.For):
            for told in sources(node.iter):
                for inner in [inner for statement in node.body for inner in ast.walk(statement)]:
                    if changes(inner, told) or is_heap_change(inner, told):
                        yield fault(file, inner, "a change of what the loop goes over")
        for node in file.of(*COMPREHENSIONS):
            for told in [told for part in node.generators for told in sources(part.iter)]:
                if any(changes(inner, told) for inner in ast.walk(node)):
                    yield fault(file, node, "a change of what the comprehension goes over")
        for node in file.of(ast.Call):
            attribute = getattr(node.func, "attr", None)
            if attribute in VIEWS and isinstance(node.parent, ast.Call) and called(node.parent) in ("set", "min", "max"):
                if called(node.parent) == "set" or len(node.parent.args) > 1:
                    yield fault(file, node, "a view that is not iterated at once")


def sources(node):
    """What is gone over, in the words of ast.dump: the parts of zip, of or, and of a choice, too."""
    if isinstance(node, ast.Call) and called(node) in ("enumerate", "zip", "reversed"):
        return [told for one in node.args for told in sources(one)]
    if isinstance(node, ast.Call) and getattr(node.func, "attr", None) in VIEWS:
        return sources(node.func.value)
    if isinstance(node, ast.BoolOp):
        return [told for one in node.values for told in sources(one)]
    if isinstance(node, ast.IfExp):
        return sources(node.body) + sources(node.orelse)
    return [ast.dump(node)] if isinstance(node, (ast.Name, ast.Attribute, ast.Subscript)) else []


def is_heap_change(node, told):
    """Whether a function of heaps changes the told list."""
    return called(node) in ("heappush", "heappop", "heapify", "heapreplace", "heappushpop") and (
        ast.dump(node.args[0]) == told)


def narrow_tries(package):
    """L19: what a try contains that catches ValueError, LookupError or IndexError, and what handlers do."""
    for file in package.files:
        for node in file.of(ast.Try):
            names = [name for one in node.handlers for name in caught(one)]
            if any(name in CAUGHT_NARROWLY for name in names):
                for inner in [inner for statement in node.body for inner in ast.walk(statement)]:
                    if is_barred_in_try(inner, names):
                        yield fault(file, inner, "what stands in a try")
        for node in file.of(ast.ExceptHandler):
            foreign = any(name not in package.class_names for name in caught(node))
            for inner in ast.walk(node):
                if node.name is not None and word(inner) == node.name and foreign and not (
                        isinstance(inner.parent, ast.Raise) and inner.parent.cause is inner):
                    yield fault(file, inner, "the error of a handler")
        for node in file.of(ast.Raise):
            handlers = [one for one in inside(node, None) if isinstance(one, ast.ExceptHandler)]
            if node.exc is None and not handlers:
                yield fault(file, node, "a bare raise")
            if isinstance(node.cause, ast.Call) and called(node.cause) not in package.error_names or isinstance(
                    node.cause, ast.Constant) and node.cause.value is not None:
                yield fault(file, node, "what an error is raised from")


def is_barred_in_try(node, names):
    """Whether the node does not stand in a try that catches errors of values."""
    unpacks = "ValueError" in names
    if isinstance(node, ast.Assign) and unpacks and any(isinstance(one, ast.Tuple) for one in node.targets):
        return not isinstance(node.value, ast.Tuple)
    if isinstance(node, (ast.For, ast.comprehension)) and unpacks and isinstance(node.target, ast.Tuple):
        return called(node.iter) not in ("enumerate", "zip")
    if isinstance(node, ast.Subscript) and isinstance(node.slice, ast.Slice):
        return "KeyError" in names or "LookupError" in names or node.slice.step is not None or not isinstance(
            node.ctx, ast.Load)
    if isinstance(node, ast.BinOp) and isinstance(node.op, (ast.Mult, ast.LShift, ast.RShift)):
        return not (isinstance(node.right, ast.Constant) and 0 <= node.right.value <= 64)
    if isinstance(node, ast.Call) and isinstance(node.func, ast.Attribute):
        method = node.func.attr
        literal = all(isinstance(one, ast.Constant) for one in node.args)
        return method not in TRY_METHODS or method in ONE_VALUE and len(node.args) != 1 or method == "split" and (
            not literal) or method == "pop" and bool(node.args) or method == "replace" and len(node.args) != 2
    if isinstance(node, ast.Call) and called(node) == "sorted":
        return bool(node.keywords)
    return isinstance(node, ast.Starred) or isinstance(node, ast.FormattedValue) and (
        node.conversion != -1 or node.format_spec is not None)


def methods_of_values(package):
    """L7, L25, L26: sort, format, translate, decode, and names that own methods and attributes may not have."""
    for file in package.files:
        for node in file.of(ast.Call):
            method = getattr(node.func, "attr", None)
            literal = isinstance(getattr(node.func, "value", None), ast.Constant)
            if method == "sort" and not is_plain_sort(node):
                yield fault(file, node, "sort")
            if method == "format" and not (literal and is_plain_format(node)):
                yield fault(file, node, "format")
            if method == "translate" and not isinstance(node.args[0], (ast.Dict, ast.Name)) and not (
                    getattr(getattr(node.args[0], "func", None), "attr", None) == "maketrans"):
                yield fault(file, node, "translate")
            if method == "translate" and isinstance(node.args[0], ast.Name) and not [
                    one for one in file.of(ast.Assign) if word(one.targets[0]) == node.args[0].id]:
                yield fault(file, node, "translate by a table that is not written here")
            if method == "maketrans" and word(node.func.value) != "str":
                yield fault(file, node, "maketrans")
            if method == "decode" and [getattr(one, "value", None) for one in node.args] != ["ascii"]:
                yield fault(file, node, "decode")
        for node in file.of(*FUNCTIONS):
            if is_method(node) and node.name in STRING_METHODS and node.name not in OWN_METHOD_NAMES:
                yield fault(file, node, f"the method {node.name}")
            if is_method(node) and node.name in CALLED + ["print"]:
                yield fault(file, node, f"the method {node.name}")
        for node in file.of(ast.Attribute):
            if isinstance(node.ctx, ast.Store) and node.attr in BARRED_ATTRIBUTES:
                yield fault(file, node, f"the attribute {node.attr}")


def is_plain_sort(node):
    """Whether sort is a statement of its own, with a literal reverse and a plain lambda as its key."""
    for keyword in node.keywords:
        if keyword.arg == "reverse" and not isinstance(getattr(keyword.value, "value", None), bool):
            return False
        if keyword.arg == "key" and not (isinstance(keyword.value, ast.Lambda) and not any(
                isinstance(inner, (ast.Call, ast.BinOp)) for inner in ast.walk(keyword.value))):
            return False
    return isinstance(node.parent, ast.Expr) and not node.args


def is_plain_format(node):
    """Whether format is passed as many plain values as the literal names."""
    names = re.findall(r"\{([a-z0-9]*)[^{}]*\}", re.sub(r"\{\{|\}\}", "", node.func.value.value))
    plain = all(isinstance(one, (ast.Name, ast.Attribute, ast.Subscript, ast.Constant)) for one in
                node.args + [keyword.value for keyword in node.keywords])
    return plain and len(set(names)) + names.count("") - ("" in names) == len(node.args) + len(node.keywords)


def texts(package):
    """L27: words of frames in strings, strings in f-strings, lines that Python warns of; L27: exponents."""
    for file in package.files:
        with warnings.catch_warnings(record=True) as told:
            warnings.simplefilter("always")
            compile(file.text, file.path, "exec")
        yield from (f"{file.path}: {one.message}" for one in told)
        for node in file.of(ast.Constant):
            if isinstance(node.value, str) and not is_docstring(node):
                words = re.findall(r"[A-Za-z0-9_]+", node.value)
                joined = "{" in node.value or "." in node.value and " " not in node.value
                if FRAME_NAMES.match(node.value) or joined and any(FRAME_NAMES.match(one) for one in words):
                    yield fault(file, node, "a word of frames")
        for node in file.of(ast.JoinedStr):
            if isinstance(node.parent, ast.FormattedValue) and node is node.parent.value:
                yield fault(file, node, "an f-string in an f-string")
            texts_in_it = [inner for part in node.values if isinstance(part, ast.FormattedValue)
                           for inner in ast.walk(part.value) if isinstance(inner, ast.Constant)
                           and isinstance(inner.value, (str, bytes))]
            source = "\n".join(file.text.split("\n")[node.lineno - 1:node.end_lineno])
            if texts_in_it and ("\\" in source or "#" in source or node.end_lineno > node.lineno or any(
                    isinstance(inner.value, bytes) for inner in texts_in_it)):
                yield fault(file, node, "a string in an f-string")
            if texts_in_it and len(re.findall(r"[\"'] +f?[\"']", source)) > 0:
                yield fault(file, node, "a string beside an f-string with a string in it")
            if re.search(r"\{[^{}:=!<>]*=\s*[}!:]", source):
                yield fault(file, node, "an f-string that shows its expression")
        for node in file.of(ast.BinOp, ast.AugAssign):
            power = node.right if isinstance(node, ast.BinOp) else node.value
            if isinstance(node.op, ast.Pow) and isinstance(power, ast.Name) and not is_short_range(power):
                yield fault(file, node, "an exponent")


def is_short_range(node):
    """Whether the name is that of loops over ranges of literals up to 64 alone, in its function."""
    function = function_around(node)
    stored = [inner for inner in ast.walk(function) if word(inner) == node.id and isinstance(inner.ctx, ast.Store)]
    return bool(stored) and all(
        isinstance(inner.parent, (ast.For, ast.comprehension)) and called(inner.parent.iter) == "range" and all(
            isinstance(one, ast.Constant) and 0 <= one.value <= 64 for one in inner.parent.iter.args) for inner in stored)


def written_out(package):
    """L28: what __len__, __str__ and __repr__ return, and what they and __eq__ change."""
    for file in package.files:
        for node in file.of(*FUNCTIONS):
            returns = [inner.value for inner in ast.walk(node) if isinstance(inner, ast.Return)]
            if node.name == "__len__" and not all(called(one) == "len" or is_surely_integer(one) for one in returns):
                yield fault(file, node, "what __len__ returns")
            if node.name in ("__str__", "__repr__") and not all(is_string(one) for one in returns):
                yield fault(file, node, "what it returns")
            if node.name in ("__len__", "__str__", "__repr__", "__eq__"):
                for inner in ast.walk(node):
                    changed = getattr(getattr(inner, "func", None), "value", None)
                    method = getattr(getattr(inner, "func", None), "attr", None)
                    if isinstance(changed, ast.Attribute) and method in CHANGING:
                        yield fault(file, inner, "a change")
                    if isinstance(inner, ast.Subscript) and isinstance(inner.ctx, (ast.Store, ast.Del)) and isinstance(
                            inner.value, ast.Attribute):
                        yield fault(file, inner, "a change")
        for node in file.of(ast.Attribute):
            if node.attr == "__init__" and isinstance(node.parent, ast.Call) and called(node.value) != "super":
                first = word(node.parent.args[0]) if node.parent.args else None
                if first is None or first != function_around(node).args.args[0].arg:
                    yield fault(file, node, "__init__ of another object")


def is_string(node):
    """Whether the value surely is a string."""
    joined = isinstance(node, ast.Call) and getattr(node.func, "attr", None) in ("join", "format")
    return isinstance(node, ast.JoinedStr) or called(node) in ("str", "repr") or joined or isinstance(
        getattr(node, "value", None), str) or isinstance(node, ast.BinOp) and is_string(node.left)


def annotated(package):
    """L21: without the import from __future__ annotations are int, str, bool, None and own classes, in brackets."""
    for file in package.files:
        if not [node for node in file.of(ast.ImportFrom) if node.module == "__future__"]:
            for node in file.of(ast.Name):
                if node.id in ("float", "object") and not isinstance(node.parent, ast.Call):
                    yield fault(file, node, "an annotation")
        for token in tokenize.generate_tokens(io.StringIO(file.text).readline):
            if token.type == tokenize.STRING and token.string[:1] in "rRuU":
                yield f"{file.path}:{token.start[0]}: a prefix of a string"


RULES = {
    "L8, L22 calls of builtins": builtin_calls,
    "L22 own calls": own_calls,
    "L23 loops": loops,
    "L19 narrow tries": narrow_tries,
    "L25, L26 methods": methods_of_values,
    "L27 texts": texts,
    "L28 returns": written_out,
    "L21 plain annotations": annotated,
}
