"""The interface: names, parameters, and the files in which they are defined."""

import ast
import importlib
import inspect
import pathlib
import unittest

import pourdrains
from pourdrains.works import Works
from tests.interface import FUNCTIONS, functions, methods

PACKAGE = pathlib.Path(pourdrains.__file__).parent


class Interface(unittest.TestCase):
    def test_names_and_parameters(self):
        for module, name, parameters in functions():
            function = getattr(importlib.import_module("pourdrains." + module), name)
            found = inspect.signature(function).parameters.values()
            self.assertEqual([one.name for one in found], [parameter for parameter, _ in parameters], name)
            for one in found:
                self.assertEqual((one.kind, one.default), (one.POSITIONAL_OR_KEYWORD, one.empty), name)

    def test_defined_where_they_are_listed(self):
        for module in FUNCTIONS:
            tree = ast.parse((PACKAGE / (module + ".py")).read_text())
            defined = [node.name for node in tree.body if isinstance(node, ast.FunctionDef)]
            wanted = [name for place, name, _ in functions() if place == module]
            self.assertLessEqual(set(wanted), set(defined))

    def test_methods_of_works(self):
        tree = ast.parse((PACKAGE / "works.py").read_text())
        (made,) = [node for node in tree.body if isinstance(node, ast.ClassDef) and node.name == "Works"]
        defined = [node.name for node in made.body if isinstance(node, ast.FunctionDef)]
        for name, parameters in methods():
            self.assertIn(name, defined)
            found = list(inspect.signature(getattr(Works, name)).parameters.values())[1:]
            self.assertEqual([one.name for one in found], [parameter for parameter, _ in parameters], name)
            for one in found:
                self.assertEqual((one.kind, one.default), (one.POSITIONAL_OR_KEYWORD, one.empty), name)

    def test_new_works(self):
        found = inspect.signature(Works).parameters.values()
        self.assertEqual([(one.name, one.default) for one in found], [("hill", inspect.Parameter.empty), ("water", ())])
        self.assertEqual(Works.__bases__, (object,))
