"""The rules of ../shared/LANGUAGE.md about files, sizes, signs, words and imports."""

import ast
import builtins
import io
import os
import re
import sys
import tokenize

from package_files import FUNCTIONS, bound_names, fault, is_docstring, names_of

LIBRARY = {
    "__future__": ("annotations",),
    "heapq": ("heappush", "heappop", "heapify", "heapreplace", "heappushpop"),
    "math": ("gcd", "lcm", "isqrt", "comb", "perm", "factorial"),
    "itertools": ("product", "combinations", "permutations", "chain", "accumulate", "pairwise", "islice",
                  "zip_longest"),
    "collections": ("defaultdict", "deque"),
}
OUTSIDE_NAMES = ("test", "tests", "testing", "site", "conftest", "sitecustomize", "usercustomize")
METHODS_WITH_UNDERSCORES = tuple(
    f"__{word}__" for word in
    "init eq repr str len enter exit call iter lt le gt ge ne add sub mul floordiv mod pow and or xor lshift rshift "
    "radd rsub rmul rfloordiv rmod rand ror rxor rlshift rrshift iadd isub imul ifloordiv imod ipow iand ior ixor "
    "ilshift irshift neg pos invert abs bool contains getitem setitem".split())
SPECIAL_NAMES = METHODS_WITH_UNDERSCORES + ("__all__", "__version__", "__name__", "__class__", "__slots__")
BARRED_PREFIXES = ("_wall", "_pe_", "_dcw_", "_enum_", "_cm_", "_twin_re_", "_lay_", "_law_", "_stub_", "_sre",
                   "_WallAttr")
BARRED_NAMES = ("_cold", "_tuplegetter", "_outside", "_record", "_written_out", "_member_names")
NEVER_NAMES = ("register", "mro", "elements", "open", "input", "law", "version_info", "with_traceback", "add_note")
FRAME_NAMES = re.compile(r"(f|tb|co|gi|cr|ag)_[a-z]+\Z")
NO_VARIABLES = ("attrgetter", "breakpoint", "builtins", "compile", "copyright", "credits", "delattr", "dir", "eval",
                "exec", "exit", "gc", "getattr", "globals", "hasattr", "help", "id", "importlib", "license", "locals",
                "methodcaller", "os", "quit", "setattr", "super", "type", "vars", "sys")
BARRED_WORDS = ("typing", "typing_extensions", "enum", "Enum", "IntEnum", "StrEnum", "Flag", "IntFlag", "Generic",
                "Protocol", "ABC", "ABCMeta", "namedtuple", "NamedTuple", "TypedDict", "TYPE_CHECKING",
                "abstractmethod")
BARRED_PARTS = ("dataclass", "overload", "contextmanager")


def folder_faults(folder):
    """L1, L14: what stands in the folder of the package beside files with plain lower-case names."""
    faults = []
    for place, folders, names in os.walk(folder):
        if "__pycache__" in folders:
            folders.remove("__pycache__")
        faults.extend(f"L1: {name}" for name in names if not re.fullmatch(r"[A-Za-z0-9_]+\.py", name))
        faults.extend(f"L14: {name}" for name in names + folders if name != name.lower())
        if "__init__.py" not in names:
            faults.append(f"L14: no __init__.py in {place}")
        for name in names:
            with open(os.path.join(place, name), "rb") as source:
                faults.extend(f"L1: {name} is not UTF-8" for _ in [0] if not is_utf8(source.read()))
    return faults


def is_utf8(data):
    """Whether the bytes are UTF-8."""
    try:
        data.decode("utf-8")
    except UnicodeDecodeError:
        return False
    return True


def file_names(package):
    """L14: names of files, and how many there are."""
    paths = [file.path for file in package.files]
    if "__init__.py" not in paths:
        yield "no __init__.py"
    if len(paths) > 100:
        yield "more than 100 files"
    if package.name in sys.stdlib_module_names:
        yield "the package has the name of a module of the library"
    for path in paths:
        parts = path[:-len(".py")].split("/")
        barred = OUTSIDE_NAMES + NEVER_NAMES + tuple(dir(builtins))
        for part in parts:
            if part in barred or part.startswith(("law_", "test_")) or part != part.lower():
                yield f"{path}: the name {part}"
        if parts[-1] == "__main__" and len(parts) > 1:
            yield f"{path}: not at the top of the package"


def characters(package):
    """L14: signs from the space to the tilde, and line feeds."""
    for file in package.files:
        for number, line in enumerate(file.text.split("\n"), 1):
            if not re.fullmatch(r"[ -~]*", line):
                yield f"{file.path}:{number}: a sign that is not plain"


def sizes(package):
    """L10: lines of a function and of a file, signs of a line."""
    for file in package.files:
        lines = file.text.split("\n")
        if len(lines) - (lines[-1] == "") > 399:
            yield f"{file.path}: more than 399 lines"
        for number, line in enumerate(lines, 1):
            if len(line) > 120 or "\t" in line:
                yield f"{file.path}:{number}: too long, or a tab"
        for node in file.of(*FUNCTIONS):
            first = min([node.lineno] + [decorator.lineno for decorator in node.decorator_list])
            if node.end_lineno - first + 1 > 40:
                yield fault(file, node, "more than 40 lines")


def imports(package):
    """L2, L9, L16: imports stand at the top, and name what the file of the package defines."""
    defined = {file.path: {name for name, _ in top_names(file) if name} for file in package.files}
    for file in package.files:
        begun = False
        for k, node in enumerate(file.tree.body):
            is_import = isinstance(node, (ast.Import, ast.ImportFrom))
            if is_import and begun:
                yield fault(file, node, "an import below other statements")
            begun = begun or not is_import and not (k == 0 and isinstance(node, ast.Expr))
        for node in file.of(ast.Import):
            if file.path != "__main__.py" or [(name.name, name.asname) for name in node.names] != [("sys", None)]:
                yield fault(file, node, "import")
        for node in file.of(ast.ImportFrom):
            yield from (fault(file, node, words) for words in import_faults(package, node, defined))
            if node.parent is not file.tree:
                yield fault(file, node, "an import that is not at the top")


def import_faults(package, node, defined):
    """What is wrong with one import."""
    module = node.module or ""
    if node.level or any(name.name == "*" for name in node.names):
        return ["a leading dot or a star"]
    if module in LIBRARY:
        return [f"{name.name} of {module}" for name in node.names if name.name not in LIBRARY[module] or name.asname]
    path = module[len(package.name) + 1:].replace(".", "/") + ".py"
    if not module.startswith(package.name + ".") or path not in defined or path == "__main__.py":
        return [f"an import from {module}"]
    return [f"{name.name} is not defined in {module}" for name in node.names if name.name not in defined[path]]


def top_names(file):
    """The names that a file defines at module level by itself, and the nodes that do."""
    for node in file.tree.body:
        if isinstance(node, FUNCTIONS + (ast.ClassDef,)):
            yield node.name, node
        elif isinstance(node, (ast.Assign, ast.AnnAssign)):
            for target in node.targets if isinstance(node, ast.Assign) else [node.target]:
                yield getattr(target, "id", None), node


def circles(package):
    """L16: no two files import from each other, directly or through others."""
    ways = {}
    for file in package.files:
        modules = [node.module or "" for node in file.of(ast.ImportFrom)]
        ways[file.path] = {module[len(package.name) + 1:].replace(".", "/") + ".py" for module in modules}
    for path in ways:
        reached, waiting = set(), list(ways[path])
        while waiting:
            at = waiting.pop()
            if at in ways and at not in reached:
                reached.add(at)
                waiting.extend(ways[at])
        if path in reached:
            yield f"{path} imports itself through others"


def names(package):
    """L12, L17, L8: the form of names, and names that are not used."""
    for file in package.files:
        for name, role, node in names_of(file):
            plain = re.fullmatch(r"_?[A-Za-z][A-Za-z0-9_]*|_", name) or name in SPECIAL_NAMES
            if not plain or name.startswith(BARRED_PREFIXES) and role not in ("attribute", "method"):
                yield fault(file, node, f"the name {name}")
            if re.sub(r"[0-9_]+\Z", "", name) in BARRED_NAMES or role == "class" and name.startswith("_"):
                yield fault(file, node, f"the name {name}")
            if name in NEVER_NAMES or FRAME_NAMES.match(name) or name in ("format_map",):
                yield fault(file, node, f"the name {name}")
            if role == "read" and name == "_":
                yield fault(file, node, "_ is read")
            if role == "method" and name in NO_VARIABLES:
                yield fault(file, node, f"the name {name}")
        for name, _, node in bound_names(file):
            if name in NO_VARIABLES or name in dir(builtins):
                yield fault(file, node, f"the name {name}")


def words(package):
    """L12, L17: words that do not occur."""
    for file in package.files:
        if re.search(r"\b(_wall|_WallAttr)\b", file.text):
            yield f"{file.path}: a word of L12"
        docstrings = {node.lineno for node in file.of(ast.Constant) if isinstance(node.value, str) and is_docstring(node)}
        for token in tokenize.generate_tokens(io.StringIO(file.text).readline):
            if token.type == tokenize.COMMENT or token.type == tokenize.STRING and token.start[0] in docstrings:
                continue
            found = re.findall(r"[A-Za-z0-9_]+", token.string)
            kind_asked = token.type == tokenize.NAME and token.string == "type" and "type(" not in token.line
            barred = any(word in BARRED_WORDS for word in found) or any(part in token.string for part in BARRED_PARTS)
            if barred or kind_asked:
                yield f"{file.path}:{token.start[0]}: a word of L17"


def strings(package):
    """L7, L27: strings, bytes and numbers as they are written."""
    for file in package.files:
        for node in file.of(ast.Constant):
            value = node.value
            if isinstance(value, (float, complex)) or isinstance(value, int) and abs(value) >= 10 ** 900:
                yield fault(file, node, "a number")
            if isinstance(value, str) and not is_docstring(node):
                dunder = value != "__main__" and re.search(r"(\A|\W)__", value)
                if "%" in value or value.endswith(("._", ".__")) or dunder:
                    yield fault(file, node, "a string")
        for token in tokenize.generate_tokens(io.StringIO(file.text).readline):
            if token.type == tokenize.STRING:
                prefix = re.match("[A-Za-z]*", token.string).group().lower()
                allowed = r"\\[nt\\'\"]" + (r"|\\x[0-9a-f]{2}" if "b" in prefix else "")
                if "r" in prefix or "u" in prefix or "\\" in re.sub(allowed, "", token.string):
                    yield f"{file.path}:{token.start[0]}: an escape or a prefix"


RULES = {
    "L14 names of files": file_names,
    "L14 characters": characters,
    "L10": sizes,
    "L2, L9, L16 imports": imports,
    "L16 circles": circles,
    "L8, L12, L15, L17 names": names,
    "L12, L17 words": words,
    "L7, L27 strings": strings,
}
