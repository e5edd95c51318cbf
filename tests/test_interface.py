"""The interface of DOC.md: what each file defines, and with which arguments."""

import ast
import importlib
import inspect
import unittest

from package_files import bases_of, is_method, read_package

INTERFACE = {
    "errors.py": {
        "KnitError": None,
        "WrongChart": ["line", "item"],
        "TextFault": ["line", "word"],
        "CodeFault": ["line"],
        "TooWide": ["line"],
        "NoChart": ["index"],
        "MachineFault": ["index"],
        "OutOfReach": ["index"],
        "OutOfBed": ["index"],
        "NeedleEmpty": ["index"],
        "NeedleFull": ["index"],
        "Facing": ["index"],
    },
    "fabrics.py": {
        "mirrored": ["fabric"],
        "turned": ["fabric"],
        "undone": ["fabric"],
        "difference": ["fabric", "other"],
    },
    "charts.py": {
        "check_chart": ["chart"],
        "fabric_of": ["chart"],
        "row_of": ["chart"],
        "weave": ["order", "heights"],
        "mirror_chart": ["chart"],
        "turn_chart": ["chart"],
    },
    "texts.py": {
        "read_chart": ["text"],
        "write_chart": ["chart"],
    },
    "machine.py": {
        "Machine": ["width", "reach"],
        "fabric_of_code": ["code", "width", "reach"],
    },
    "codes.py": {
        "read_code": ["text"],
        "write_code": ["code"],
        "cost": ["code"],
    },
    "moves.py": {
        "carry": ["i", "j", "reach"],
        "space": ["old", "new", "reach"],
        "exchange": ["i", "over", "reach"],
    },
    "planning.py": {
        "least_plan": ["old", "new", "reach"],
    },
    "compiling.py": {
        "compile_chart": ["chart", "width", "reach"],
    },
    "shortening.py": {
        "shorten": ["code", "width", "reach", "passes"],
    },
    "reading_back.py": {
        "chart_of_code": ["code", "width", "reach"],
    },
    "tidying.py": {
        "tidy": ["chart"],
    },
    "judging.py": {
        "judge": ["code", "chart", "width", "reach"],
    },
}

METHODS = {
    "machine.py": {
        "Machine": {"step": ["instruction"], "run": ["code"], "stack": ["bed", "i"], "fabric": []},
    },
}

FIELDS = {"Machine": ["width", "reach", "rack", "done"]}


class InterfaceTest(unittest.TestCase):

    def test_each_name_is_defined_in_its_file(self):
        package = read_package("heldloops")
        for path, told in INTERFACE.items():
            found = package.file(path)
            self.assertIsNotNone(found, path)
            defined = {node.name for node in found.tree.body if isinstance(node, (ast.FunctionDef, ast.ClassDef))}
            self.assertEqual(sorted(set(told) - defined), [])

    def test_arguments(self):
        for path, told in INTERFACE.items():
            module = importlib.import_module("heldloops." + path[:-len(".py")])
            for name, arguments in told.items():
                if arguments is not None:
                    self.assertEqual(list(inspect.signature(getattr(module, name)).parameters), arguments, name)

    def test_methods_stand_in_the_body_of_their_class(self):
        for path, classes in METHODS.items():
            found = {node.name: node for node in read_package("heldloops").file(path).of(ast.ClassDef)}
            for name, methods in classes.items():
                bodies = {node.name: node for node in found[name].body if isinstance(node, ast.FunctionDef)}
                for method, arguments in methods.items():
                    told = [argument.arg for argument in bodies[method].args.args]
                    self.assertEqual(told, ["self"] + arguments, method)

    def test_fields_are_set_when_an_object_is_made(self):
        for path, classes in METHODS.items():
            module = importlib.import_module("heldloops." + path[:-len(".py")])
            for name in classes:
                made = getattr(module, name)(5, 4)
                self.assertEqual([field for field in FIELDS[name] if field not in vars(made)], [])

    def test_no_function_changes_a_list_that_it_was_passed(self):
        changed = []
        for file in read_package("heldloops").files:
            for node in file.of(ast.FunctionDef):
                passed = {argument.arg for argument in node.args.args} - ({"self"} if is_method(node) else set())
                rebound = {inner.id for inner in ast.walk(node) if isinstance(inner, ast.Name)
                           and isinstance(inner.ctx, ast.Store)}
                changed.extend((node.name, name) for name in sorted(passed - rebound) if changes(node, name))
        self.assertEqual(changed, [])

    def test_errors_are_classes_of_their_own_file(self):
        errors = read_package("heldloops").file("errors.py")
        self.assertEqual([bases_of(node) for node in errors.of(ast.ClassDef) if not bases_of(node)], [])


def changes(function, name):
    """Whether the function changes the list or dict of this name by a method or an item."""
    for node in ast.walk(function):
        if isinstance(node, ast.Attribute) and getattr(node.value, "id", None) == name:
            if node.attr in ("append", "extend", "insert", "pop", "remove", "clear", "sort", "reverse", "update"):
                return True
        if isinstance(node, ast.Subscript) and isinstance(node.ctx, (ast.Store, ast.Del)):
            if getattr(node.value, "id", None) == name:
                return True
    return False


if __name__ == "__main__":
    unittest.main()
