"""The names of the interface, with their arguments, in the files under which they stand."""

import importlib
import inspect
import unittest

FUNCTIONS = {
    "splits": {"pooled": "(*splits, size)", "shared": "(*splits, size)", "splits_of": "(size)"},
    "chains": {"find_chain": "(splits, first, last)", "chain_holds": "(splits, first, last, chain)",
               "find_island": "(splits, first, last)", "island_holds": "(splits, first, last, island)"},
    "sayings": {"nested": "(group, saying, count)"},
}

CLASSES = {
    "splits": {"Split": {
        "__init__": "(self, marks)", "whole": "(cls, size)", "apart": "(cls, size)", "read": "(text)",
        "marks": "(self)", "cells": "(self)", "cell": "(self, case)", "together": "(self, first, second)",
        "finer": "(self, other)", "parted": "(self, words)", "merged": "(self, first, second)", "__len__": "(self)",
        "__eq__": "(self, other)", "__ne__": "(self, other)", "__and__": "(self, other)", "__or__": "(self, other)",
        "__str__": "(self)", "__repr__": "(self)"}},
    "sayings": {
        "Saying": {
            "parts": "(self)", "facts": "(self)", "letters": "(self)", "filled": "(self, **sayings)",
            "plain": "(self)", "depth": "(self)", "positive": "(self)", "__invert__": "(self)",
            "__and__": "(self, other)", "__or__": "(self, other)", "__eq__": "(self, other)",
            "__ne__": "(self, other)", "__len__": "(self)", "__str__": "(self)", "__repr__": "(self)"},
        "Truth": {"__init__": "(self, value)"}, "Fact": {"__init__": "(self, name)"},
        "Not": {"__init__": "(self, inner)"}, "And": {"__init__": "(self, first, second)"},
        "Or": {"__init__": "(self, first, second)"}, "Knows": {"__init__": "(self, group, inner)"},
        "Whether": {"__init__": "(self, group, inner)"}, "Common": {"__init__": "(self, group, inner)"}},
}


def written(method):
    if isinstance(method, property):
        return str(inspect.signature(method.fget))
    return str(inspect.signature(getattr(method, "__func__", method)))


class TheInterface(unittest.TestCase):
    def test_functions(self):
        for module, functions in FUNCTIONS.items():
            found = importlib.import_module(f"thinwall.{module}")
            for name, arguments in functions.items():
                function = getattr(found, name)
                self.assertEqual(function.__module__, f"thinwall.{module}", name)
                self.assertEqual(written(function), arguments, name)

    def test_classes(self):
        for module, classes in CLASSES.items():
            found = importlib.import_module(f"thinwall.{module}")
            for name, methods in classes.items():
                self.assertEqual(getattr(found, name).__module__, f"thinwall.{module}", name)
                for method, arguments in methods.items():
                    self.assertEqual(written(vars(getattr(found, name))[method]), arguments, (name, method))


if __name__ == "__main__":
    unittest.main()
