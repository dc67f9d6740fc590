"""The names of the interface, with their arguments, in the files under which they stand."""

import importlib
import inspect
import unittest

FUNCTIONS = {
    "splits": {"pooled": "(*splits, size)", "shared": "(*splits, size)", "splits_of": "(size)"},
    "chains": {"find_chain": "(splits, first, last)", "chain_holds": "(splits, first, last, chain)",
               "find_island": "(splits, first, last)", "island_holds": "(splits, first, last, island)"},
    "sayings": {"nested": "(group, saying, count)"},
    "reading": {"read_saying": "(text)", "to_saying": "(saying)"},
    "houses": {"beside": "(one, other)"},
    "truths": {"cases_of": "(table, saying)", "holds": "(table, case, *sayings)",
               "doubt": "(table, case, group, saying)", "level": "(table, case, group, saying)",
               "sure_facts": "(table, group, case)"},
    "ledgers": {"find_ledger": "(table, case, saying)", "ledger_holds": "(table, case, saying, truth, ledger)"},
}

CLASSES = {
    "splits": {"Split": {
        "__init__": "(self, marks)", "whole": "(cls, size)", "apart": "(cls, size)", "read": "(text)",
        "marks": "(self)", "cells": "(self)", "cell": "(self, case)", "together": "(self, first, second)",
        "finer": "(self, other)", "parted": "(self, words)", "merged": "(self, first, second)", "__len__": "(self)",
        "__eq__": "(self, other)", "__ne__": "(self, other)", "__and__": "(self, other)", "__or__": "(self, other)",
        "__str__": "(self)", "__repr__": "(self)"}},
    "sayings": {
        "Saying": {
            "parts": "(self)", "facts": "(self)", "letters": "(self)", "filled": "(self, **sayings)",
            "plain": "(self)", "depth": "(self)", "positive": "(self)", "__invert__": "(self)",
            "__and__": "(self, other)", "__or__": "(self, other)", "__eq__": "(self, other)",
            "__ne__": "(self, other)", "__len__": "(self)", "__str__": "(self)", "__repr__": "(self)"},
        "Truth": {"__init__": "(self, value)"}, "Fact": {"__init__": "(self, name)"},
        "Not": {"__init__": "(self, inner)"}, "And": {"__init__": "(self, first, second)"},
        "Or": {"__init__": "(self, first, second)"}, "Knows": {"__init__": "(self, group, inner)"},
        "Whether": {"__init__": "(self, group, inner)"}, "Common": {"__init__": "(self, group, inner)"}},
    "houses": {"House": {
        "__init__": "(self, facts, rows, **eyes)", "seen": "(cls, facts, rows, **sees)",
        "matching": "(cls, facts, saying, **sees)", "facts": "(self)", "rows": "(self)", "eyes": "(self, letter)",
        "fact_holds": "(self, case, name)", "kept": "(self, cases)", "__len__": "(self)", "__eq__": "(self, other)",
        "__ne__": "(self, other)"}},
    "tables": {"Table": {
        "__init__": "(self, house, **splits)", "keyed": "(cls, house, key)", "view": "(self, letter)",
        "pooled": "(self, group)", "shared": "(self, group)", "finer": "(self, other)", "parted": "(self, **words)",
        "key": "(self)", "room": "(self)", "__eq__": "(self, other)", "__ne__": "(self, other)", "__str__": "(self)"}},
}


def written(method):
    if isinstance(method, property):
        return str(inspect.signature(method.fget))
    return str(inspect.signature(getattr(method, "__func__", method)))


class TheInterface(unittest.TestCase):
    def test_functions(self):
        for module, functions in FUNCTIONS.items():
            found = importlib.import_module(f"thinwall.{module}")
            for name, arguments in functions.items():
                function = getattr(found, name)
                self.assertEqual(function.__module__, f"thinwall.{module}", name)
                self.assertEqual(written(function), arguments, name)

    def test_classes(self):
        for module, classes in CLASSES.items():
            found = importlib.import_module(f"thinwall.{module}")
            for name, methods in classes.items():
                self.assertEqual(getattr(found, name).__module__, f"thinwall.{module}", name)
                for method, arguments in methods.items():
                    self.assertEqual(written(vars(getattr(found, name))[method]), arguments, (name, method))


if __name__ == "__main__":
    unittest.main()
