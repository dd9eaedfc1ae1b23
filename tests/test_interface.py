"""The interface: names, parameters, and the files in which they are defined."""

import ast
import importlib
import inspect
import pathlib
import unittest

import pourdrains
from tests.interface import FUNCTIONS, functions

PACKAGE = pathlib.Path(pourdrains.__file__).parent


class Interface(unittest.TestCase):
    def test_names_and_parameters(self):
        for module, name, parameters in functions():
            function = getattr(importlib.import_module("pourdrains." + module), name)
            found = inspect.signature(function).parameters.values()
            self.assertEqual([one.name for one in found], [parameter for parameter, _ in parameters], name)
            for one in found:
                self.assertEqual((one.kind, one.default), (one.POSITIONAL_OR_KEYWORD, one.empty), name)

    def test_defined_where_they_are_listed(self):
        for module in FUNCTIONS:
            tree = ast.parse((PACKAGE / (module + ".py")).read_text())
            defined = [node.name for node in tree.body if isinstance(node, ast.FunctionDef)]
            wanted = [name for place, name, _ in functions() if place == module]
            self.assertLessEqual(set(wanted), set(defined))
