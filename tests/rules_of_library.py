"""The rules of ../shared/LANGUAGE.md about names of the library, iterators, generators and sets (L2, L8, L23, L24)."""

import ast

from package_files import FUNCTIONS, called, fault, function_around, inside, is_method, word
from rules_of_files import LIBRARY
from rules_of_meaning import CAUGHT_NARROWLY
from rules_of_syntax import TAKERS, VIEWS, is_set_use

AT_ONCE = ("product", "combinations", "permutations")
CHAINS = ("chain", "accumulate", "pairwise", "islice", "zip_longest")
HEAPS = ("heappush", "heappop", "heapify", "heapreplace", "heappushpop")
TAKE_SETS = ("sorted", "len")


def library(package):
    """L2: names of the library are only called, in functions, and what they give is used as the rule tells."""
    for file in package.files:
        names = {name.name for node in file.of(ast.ImportFrom) for name in node.names
                 if node.module in LIBRARY and node.module != "__future__"}
        for node in file.of(ast.Name):
            if node.id in names and isinstance(node.ctx, ast.Load) and not (
                    node.id == "deque" and is_annotation(node)):
                yield from (fault(file, node, f"{node.id}: {words}") for words in library_faults(node))


def is_annotation(node):
    """Whether the node is a part of an annotation."""
    while node is not None and not isinstance(node, (ast.stmt, ast.arg)):
        above = node.parent
        if isinstance(above, (ast.arg, ast.AnnAssign)) and above.annotation is node:
            return True
        if isinstance(above, FUNCTIONS) and above.returns is node:
            return True
        node = above
    return False


def library_faults(node):
    """What is wrong with one use of a name of the library."""
    call = node.parent
    if node.id == "chain" and isinstance(call, ast.Attribute) and call.attr == "from_iterable":
        call = call.parent
    if not isinstance(call, ast.Call) or node not in (call.func, getattr(call.func, "value", None)):
        return ["not called"]
    faults = []
    function = function_around(node)
    if function is None or any(node in ast.walk(one) for one in function.args.defaults):
        faults.append("outside of functions")
    if any(keyword.arg != "fillvalue" or node.id != "zip_longest" for keyword in call.keywords):
        faults.append("a keyword")
    if getattr(function, "name", "") == "__exit__" or in_barred_try(node, node.id in CHAINS):
        faults.append("where it may not stand")
    if node.id in AT_ONCE and not is_taken(call, ("list", "tuple", "sorted", "sum", "min", "max", "any", "all")):
        faults.append("not iterated at once")
    if node.id in CHAINS and not is_taken(call, TAKERS + ("enumerate", "zip")):
        faults.append("not iterated at once")
    if node.id in AT_ONCE + CHAINS:
        barred = ("map", "iter") + CHAINS + (("set",) if node.id in CHAINS else ())
        faults.extend("over what may not be" for one in call.args
                      if isinstance(one, (ast.GeneratorExp, ast.Starred)) and word(node) != "chain"
                      or isinstance(one, ast.GeneratorExp) or called(one) in barred)
    if node.id in HEAPS and not isinstance(call.args[0], (ast.Name, ast.Attribute, ast.Subscript)):
        faults.append("of what is no name, attribute or item")
    if node.id == "defaultdict":
        faults.extend(defaultdict_faults(call, function))
    if node.id == "deque" and len(call.args) > 1:
        faults.append("two values")
    return faults


def in_barred_try(node, any_handler):
    """Whether the node stands in a try that catches errors of values, in a finally, or in a guard."""
    while node.parent is not None:
        above = node.parent
        if isinstance(above, ast.match_case) and node is above.guard:
            return True
        if isinstance(above, ast.Try) and (node in above.finalbody or node in above.body and above.handlers and (
                any_handler or any(name in CAUGHT_NARROWLY for one in above.handlers for name in caught(one)))):
            return True
        node = above
    return False


def caught(handler):
    """The names of the errors that a handler catches."""
    return [word(one) for one in (handler.type.elts if isinstance(handler.type, ast.Tuple) else [handler.type])]


def is_taken(call, takers):
    """Whether the call is iterated at once, by a loop, a comprehension or one of these."""
    parent = call.parent
    if isinstance(parent, (ast.For, ast.comprehension)):
        return parent.iter is call and not isinstance(parent.parent, ast.GeneratorExp)
    keys = [keyword.arg for keyword in getattr(parent, "keywords", [])]
    return isinstance(parent, ast.Call) and word(parent.func) in takers and call in parent.args and (
        "key" not in keys or word(parent.func) == "sorted")


def defaultdict_faults(call, function):
    """What is wrong with the making and the uses of a dict with default values."""
    kind = [word(one) for one in call.args]
    if len(kind) != 1 or kind[0] not in ("int", "list", "dict", "str"):
        return ["not of int, list, dict or str"]
    if not isinstance(call.parent, ast.Assign) or not isinstance(call.parent.targets[0], ast.Name):
        return ["not assigned to a local name"]
    name = call.parent.targets[0].id
    uses = [node for node in ast.walk(function) if word(node) == name]
    stored = [node for node in uses if isinstance(node.ctx, ast.Store)]
    return ["assigned again"] * (len(stored) > 1) + [
        "passed on or kept" for node in uses if isinstance(node.ctx, ast.Load) and not (
            isinstance(node.parent, (ast.Subscript, ast.Attribute, ast.For, ast.comprehension, ast.Compare))
            or called(node.parent) in ("len", "sorted", "list", "dict"))]


def iterators(package):
    """L8: iter and next."""
    for file in package.files:
        for node in file.calls("iter"):
            kept = isinstance(node.parent, ast.Assign) and isinstance(node.parent.targets[0], ast.Name)
            returned = getattr(function_around(node), "name", "") == "__iter__"
            over = node.args[0] if node.args else None
            views = isinstance(over, ast.Call) and (called(over) in ("zip", "enumerate", "range")
                                                    or getattr(over.func, "attr", None) in VIEWS)
            plain = isinstance(over, (ast.Name, ast.Attribute, ast.Subscript)) or views or called(over) == "list"
            if len(node.args) != 1 or not plain or not (kept or returned or called(node.parent) == "next"):
                yield fault(file, node, "iter")
            if kept:
                yield from (fault(file, use, "a kept iterator") for use in uses_of_kept(node.parent)
                            if not is_iterator_use(use))
        for node in file.calls("next"):
            over = node.args[0] if node.args else None
            once = called(over) == "iter" or isinstance(over, (ast.GeneratorExp, ast.Name))
            if not once or not (len(node.args) == 2 or is_lone_next(node)) or in_barred_try(node, False):
                yield fault(file, node, "next")


def uses_of_kept(assignment):
    """Where the name of an assignment stands in its function, beside the assignment."""
    name = assignment.targets[0].id
    around = function_around(assignment) or inside(assignment, None)[-1]
    return [node for node in ast.walk(around) if word(node) == name and node is not assignment.targets[0]]


def is_iterator_use(node):
    """Whether a kept iterator stands where L8 lets it."""
    parent = node.parent
    if isinstance(node.ctx, ast.Store):
        return False
    if isinstance(parent, ast.Compare):
        return node in parent.comparators and isinstance(parent.ops[0], (ast.In, ast.NotIn))
    return isinstance(parent, (ast.For, ast.comprehension)) or isinstance(parent, ast.Starred) or (
        called(parent) in TAKERS + ("next", "zip", "enumerate"))


def is_lone_next(node):
    """Whether next with one value stands alone in a try that catches the end."""
    above = node.parent.parent
    return isinstance(node.parent, ast.Assign) and isinstance(above, ast.Try) and len(above.body) == 1 and [
        caught(one) for one in above.handlers] == [["StopIteration"]] and not above.finalbody


def generators(package):
    """L23: generators stand where they are iterated, and what they yield is a statement of its own."""
    made = {}
    for file in package.files:
        for node in file.of(ast.Yield, ast.YieldFrom):
            function = function_around(node)
            made[getattr(function, "name", "")] = True
            barred = [one for one in inside(node, function) if isinstance(one, (ast.Try, ast.With))]
            returns = [one for one in ast.walk(function) if isinstance(one, ast.Return) and one.value is not None]
            if not isinstance(node.parent, ast.Expr) or barred or returns:
                yield fault(file, node, "yield")
            if getattr(function, "decorator_list", []) or getattr(function, "name", "__iter__").startswith("__"):
                if getattr(function, "name", "") != "__iter__":
                    yield fault(file, node, "yield in a method of its own kind")
    for file in package.files:
        for node in file.nodes:
            name = node.id if isinstance(node, ast.Name) else getattr(node, "attr", None)
            if name not in made or name == "__iter__" or not isinstance(getattr(node, "ctx", None), ast.Load):
                continue
            call = node.parent
            if not isinstance(call, ast.Call) or call.func is not node or not is_generator_use(call):
                yield fault(file, node, f"the generator {name}")
            elif isinstance(call.parent, ast.For):
                # What the loop goes over would be read behind the change.
                passed = [ast.dump(one) for one in call.args]
                for inner in [inner for one in call.parent.body for inner in ast.walk(one)]:
                    if any(changes_value(inner, told) for told in passed):
                        yield fault(file, inner, "a change of what a generator goes over")


def generator_expressions(package):
    """L7, L23: a generator expression is kept in a name only for one use."""
    for file in package.files:
        for node in file.of(ast.GeneratorExp):
            if isinstance(node.parent, ast.Assign) and len(uses_of_kept(node.parent)) != 1:
                yield fault(file, node, "a kept generator expression")
            keyed = [keyword.arg for keyword in getattr(node.parent, "keywords", [])]
            if called(node.parent) in ("min", "max") and "key" in keyed:
                yield fault(file, node, "a key beside a generator expression")


def changes_value(node, told):
    """Whether the node changes what is written like the told value by a method or an item."""
    if isinstance(node, ast.Call) and isinstance(node.func, ast.Attribute):
        return node.func.attr in ("append", "pop", "extend", "insert", "remove", "clear", "sort", "reverse", "update"
                                  ) and ast.dump(node.func.value) == told
    return isinstance(node, ast.Subscript) and isinstance(node.ctx, (ast.Store, ast.Del)) and (
        ast.dump(node.value) == told)


def is_generator_use(call):
    """Whether the call of a generator is iterated at once, or kept for the next statement."""
    parent = call.parent
    if isinstance(parent, (ast.For, ast.comprehension)):
        return parent.iter is call
    if isinstance(parent, ast.YieldFrom):
        return True
    if isinstance(parent, ast.Assign):
        return isinstance(parent.targets[0], ast.Name) and len(uses_of_kept(parent)) == 1
    joined = isinstance(parent, ast.Call) and getattr(parent.func, "attr", None) == "join"
    keyed = [keyword.arg for keyword in getattr(parent, "keywords", [])]
    taken = called(parent) in TAKERS + ("enumerate", "zip") and not (called(parent) in ("min", "max") and "key" in keyed)
    return isinstance(parent, ast.Call) and call in parent.args and (joined or taken)


def stored_sets(package):
    """L24: a set has one name that is assigned once, and stands only where it is asked, measured, sorted or compared."""
    for file in package.files:
        for node in file.of(ast.Assign):
            if is_set(node.value) and (len(node.targets) > 1 or not isinstance(node.targets[0], ast.Name)):
                yield fault(file, node, "a set with several names, or with none")
            elif is_set(node.value):
                for use in uses_of_kept(node):
                    if isinstance(use.ctx, ast.Store) or not is_set_use(use) or is_kept_value(use):
                        yield fault(file, use, "a set that is assigned again or kept")
        for node in file.calls("set") + file.of(ast.Set, ast.SetComp):
            parent = node.parent
            if called(parent) in TAKE_SETS and any(keyword.arg != "reverse" for keyword in parent.keywords):
                yield fault(file, node, "a keyword beside a set")
            if isinstance(parent, ast.Compare) and isinstance(parent.ops[0], (ast.Eq, ast.NotEq)):
                if not all(is_set(one) for one in [parent.left] + parent.comparators):
                    yield fault(file, node, "a set beside what is no set")
            if isinstance(parent, ast.Compare) and not isinstance(parent.ops[0], (ast.Eq, ast.NotEq, ast.In, ast.NotIn)):
                yield fault(file, node, "an order of sets")
            if called(node) == "set" and node.args and (
                    is_set(node.args[0]) or getattr(getattr(node.args[0], "func", None), "attr", None) in VIEWS):
                yield fault(file, node, "a set of a set or of a view")
            if isinstance(node, ast.Set) and has_lowest_negatives(node):
                yield fault(file, node, "-1 and -2 in one set")


def is_set(node):
    """Whether the node writes a set: a literal, a comprehension, a call, or several of them joined."""
    if isinstance(node, ast.BinOp):
        return is_set(node.left) or is_set(node.right)
    return isinstance(node, (ast.Set, ast.SetComp)) or called(node) == "set"


def is_kept_value(node):
    """Whether the name of a set stands as a value, not as a test."""
    parent = node.parent
    while isinstance(parent, (ast.BoolOp, ast.UnaryOp)):
        node, parent = parent, parent.parent
    if isinstance(parent, ast.IfExp):
        return parent.test is not node
    if isinstance(parent, ast.Compare) and node is parent.left and isinstance(parent.ops[0], (ast.In, ast.NotIn)):
        return True
    return isinstance(parent, (ast.Assign, ast.Return, ast.AnnAssign, ast.AugAssign))


def has_lowest_negatives(node):
    """Whether a literal set holds -1 and -2, also within tuples."""
    found = {inner.operand.value for inner in ast.walk(node) if isinstance(inner, ast.UnaryOp)
             and isinstance(inner.op, ast.USub) and isinstance(inner.operand, ast.Constant)}
    return {1, 2} <= found


def kept_views(package):
    """L23: a name that keeps a range, a zip or a view is assigned once, and is not returned, passed on or stored."""
    for file in package.files:
        for node in file.of(ast.Assign):
            value = node.value
            view = isinstance(value, ast.Call) and getattr(value.func, "attr", None) in VIEWS and not value.args
            if not view and called(value) not in ("range", "zip", "enumerate", "reversed"):
                continue
            function = function_around(node)
            if function is None or len(node.targets) > 1 or not isinstance(node.targets[0], ast.Name) or (
                    is_method(function) and function.name.startswith("__") and function.name != "__init__"):
                yield fault(file, node, "a kept view")
                continue
            uses = uses_of_kept(node)
            ranged = called(value) == "range"
            if not ranged and not view and len(uses) > 1:
                yield fault(file, node, "a kept zip that is iterated twice")
            for use in uses:
                if not is_view_use(use, ranged) or function_around(use) is not function:
                    yield fault(file, use, "a kept view")


def is_view_use(node, ranged):
    """Whether a kept range or view stands where it is iterated, measured or asked."""
    parent = node.parent
    if isinstance(node.ctx, ast.Store):
        return False
    if isinstance(parent, (ast.For, ast.comprehension)):
        return parent.iter is node
    if isinstance(parent, ast.Compare):
        return node in parent.comparators and isinstance(parent.ops[0], (ast.In, ast.NotIn))
    if isinstance(parent, ast.Subscript):
        return ranged and parent.value is node
    return called(parent) in TAKERS + ("len",) or ranged and called(parent) in ("enumerate", "reversed", "zip")


RULES = {
    "L2 library": library,
    "L8 iter and next": iterators,
    "L23 generators": generators,
    "L7, L23 generator expressions": generator_expressions,
    "L24 stored sets": stored_sets,
    "L23 kept views": kept_views,
}
