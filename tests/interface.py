"""Helpers for the tests of the interface: what is defined in which file."""

import ast
import importlib
import inspect
import pathlib

PACKAGE = pathlib.Path(__file__).resolve().parent.parent / "provedunseen"


def tree_of(module):
    """Return the parsed file of a module of the package."""
    return ast.parse((PACKAGE / f"{module}.py").read_text(encoding="ascii"))


def defined_in(module):
    """Return the names of the functions and classes that the file itself defines."""
    return {node.name for node in tree_of(module).body if isinstance(node, (ast.FunctionDef, ast.ClassDef))}


def methods_in(module, name):
    """Return the names of the methods in the body of the class itself."""
    for node in tree_of(module).body:
        if isinstance(node, ast.ClassDef) and node.name == name:
            return {each.name for each in node.body if isinstance(each, ast.FunctionDef)}
    return set()


class InterfaceChecks:
    """Checks for a test case about the interface of one module."""

    def check_functions(self, module, signatures):
        """Check that each name is defined in the file, with these arguments."""
        loaded = importlib.import_module(f"provedunseen.{module}")
        for name, signature in signatures.items():
            with self.subTest(module=module, name=name):
                self.assertIn(name, defined_in(module))
                function = getattr(loaded, name)
                self.assertEqual(function.__module__, f"provedunseen.{module}")
                self.assertEqual(str(inspect.signature(function)), signature)

    def check_methods(self, module, name, signatures):
        """Check that the body of the class has each method, with these arguments."""
        loaded = importlib.import_module(f"provedunseen.{module}")
        self.assertIn(name, defined_in(module))
        for method, signature in signatures.items():
            with self.subTest(module=module, name=name, method=method):
                self.assertIn(method, methods_in(module, name))
                function = getattr(getattr(loaded, name), method)
                self.assertEqual(str(inspect.signature(function)), signature)
