"""The names of the interface, with their arguments, in the files under which they stand."""

import importlib
import inspect
import unittest

FUNCTIONS = {
    "splits": {"pooled": "(*splits, size)", "shared": "(*splits, size)", "splits_of": "(size)"},
    "chains": {"find_chain": "(splits, first, last)", "chain_holds": "(splits, first, last, chain)",
               "find_island": "(splits, first, last)", "island_holds": "(splits, first, last, island)"},
    "sayings": {"nested": "(group, saying, count)"},
    "reading": {"read_saying": "(text)", "to_saying": "(saying)"},
    "houses": {"beside": "(one, other)"},
    "truths": {"cases_of": "(table, saying)", "holds": "(table, case, *sayings)",
               "doubt": "(table, case, group, saying)", "level": "(table, case, group, saying)",
               "sure_facts": "(table, group, case)"},
    "ledgers": {"find_ledger": "(table, case, saying)", "ledger_holds": "(table, case, saying, truth, ledger)"},
    "alike": {"alike": "(table)", "rounds": "(table)", "alike_pairs": "(first, second)",
              "alike_holds": "(first, second, pairs)", "tables_alike": "(first, second)"},
    "leasts": {"least": "(table)", "least_holds": "(table, house, onto)", "same_form": "(first, second)"},
    "partings": {"find_parting": "(first, a, second, b)", "parting_holds": "(first, a, second, b, paper)",
                 "parting_saying": "(first, a, second, b, *, most=60)"},
    "deedtext": {"read_deed": "(text)"},
    "machines": {"pairing_holds": "(one, other, pairs)", "paired": "(machine, *more)"},
    "wishes": {"shortest": "(lot, wish, *, never='false', cases=None)",
               "row_holds": "(play, row, wish, *, never='false', cases=None)",
               "closed_tables": "(lot, wish, *, never='false', cases=None)",
               "closed_holds": "(play, keys, wish, *, never='false', cases=None)",
               "fewest_deeds": "(lot, wish, *, never='false', cases=None)", "once": "(lot, saying)",
               "always": "(lot, saying)", "at_last": "(lot, saying)", "firm_break": "(lot, saying)"},
    "safety": {"safe_cases": "(lot, name, letter)", "secrets": "(lot)", "leak": "(lot, name, letter)",
               "twins": "(lot, name, letter, case)", "safe_paper": "(lot, name, letter, case)",
               "safe_holds": "(play, name, letter, case, paper)", "fewest_struck": "(lot, name, letter, *, cases=None)",
               "best_level": "(lot, case, group, saying)"},
    "orders": {"order_clash": "(lot, first, second)", "free_pairs": "(lot)", "echoes": "(lot, sign)",
               "covers": "(lot, first, second)", "idle": "(lot)", "endings": "(lot, row)"},
    "ears": {"ear_machine": "(lot, group, case)", "never_apart": "(lot, group)",
             "find_apart": "(first_lot, a, second_lot, b, group)", "ears_alike": "(first_lot, second_lot, group)",
             "first_word": "(lot, group, case)", "finest": "(lot)"},
    "notes": {"stands_hold": "(lot, saying, paper, **notes)"},
    "closing": {"joint": "(street)", "sure": "(street, name, saying)", "settled": "(street)", "strikes": "(street)",
                "rest": "(street)", "strikes_hold": "(street, paper)", "refute": "(street)", "tree_holds": "(street, tree)"},
    "bench": {"attempt": "(bench, errands)", "trial": "(bench, action)"},
    "forms": {"format_play": "(play)", "parse_play": "(text)", "table_lines": "(table)", "lot_lines": "(lot)"},
    "plain": {"rows_of": "(signs, length)", "slow_names": "(play, length)", "slow_fits": "(play, length, **notes)",
              "all_houses": "(facts, size, people)"},
}

CONSTANTS = {"partings": {"MOST_PARTS": 60}, "lots": {"MOST_TABLES": 300}, "bench": {"BENCH_LIMIT": 40}}

CLASSES = {
    "splits": {"Split": {
        "__init__": "(self, marks)", "whole": "(cls, size)", "apart": "(cls, size)", "read": "(text)",
        "marks": "(self)", "cells": "(self)", "cell": "(self, case)", "together": "(self, first, second)",
        "finer": "(self, other)", "parted": "(self, words)", "merged": "(self, first, second)", "__len__": "(self)",
        "__eq__": "(self, other)", "__ne__": "(self, other)", "__and__": "(self, other)", "__or__": "(self, other)",
        "__str__": "(self)", "__repr__": "(self)"}},
    "sayings": {
        "Saying": {
            "parts": "(self)", "facts": "(self)", "letters": "(self)", "filled": "(self, **sayings)",
            "plain": "(self)", "depth": "(self)", "positive": "(self)", "__invert__": "(self)",
            "__and__": "(self, other)", "__or__": "(self, other)", "__eq__": "(self, other)",
            "__ne__": "(self, other)", "__len__": "(self)", "__str__": "(self)", "__repr__": "(self)"},
        "Truth": {"__init__": "(self, value)"}, "Fact": {"__init__": "(self, name)"},
        "Not": {"__init__": "(self, inner)"}, "And": {"__init__": "(self, first, second)"},
        "Or": {"__init__": "(self, first, second)"}, "Knows": {"__init__": "(self, group, inner)"},
        "Whether": {"__init__": "(self, group, inner)"}, "Common": {"__init__": "(self, group, inner)"}},
    "houses": {"House": {
        "__init__": "(self, facts, rows, **eyes)", "seen": "(cls, facts, rows, **sees)",
        "matching": "(cls, facts, saying, **sees)", "facts": "(self)", "rows": "(self)", "eyes": "(self, letter)",
        "fact_holds": "(self, case, name)", "kept": "(self, cases)", "__len__": "(self)", "__eq__": "(self, other)",
        "__ne__": "(self, other)"}},
    "tables": {"Table": {
        "__init__": "(self, house, **splits)", "keyed": "(cls, house, key)", "view": "(self, letter)",
        "pooled": "(self, group)", "shared": "(self, group)", "finer": "(self, other)", "parted": "(self, **words)",
        "key": "(self)", "room": "(self)", "__eq__": "(self, other)", "__ne__": "(self, other)", "__str__": "(self)"}},
    "deeds": {
        "Deed": {"__init__": "(self, **ears)", "letters": "(self)", "facts": "(self)", "ear": "(self, letter)",
                 "said": "(self, table)", "heard": "(self, table, letter)", "__call__": "(self, table)",
                 "__eq__": "(self, other)", "__ne__": "(self, other)", "__str__": "(self)"},
        "Voice": {"__init__": "(self, what, **ears)", "said": "(self, table)"},
        "Hint": {"__init__": "(self, who, what, **ears)", "said": "(self, table)", "ear": "(self, letter)"},
        "Tell": {"__init__": "(self, who, what, *, lies='false', **ears)", "said": "(self, table)",
                 "aloud": "(cls, who, what, people)", "into": "(cls, who, to, what)"},
        "Letter": {"__init__": "(self, who, to, what, *, lies='false', lost='false', **ears)", "ear": "(self, letter)"}},
    "acts": {
        "Look": {"__init__": "(self, who, what, *, dim='false')", "said": "(self, table)", "ear": "(self, letter)"},
        "Call": {"__init__": "(self, what, **ears)", "said": "(self, table)"},
        "Turn": {"__init__": "(self, when, first, second)", "said": "(self, table)", "ear": "(self, letter)"}},
    "plays": {"Play": {
        "__init__": "(self, house, **deeds)", "deed": "(self, sign)", "after": "(self, row, *, table=None)",
        "words": "(self, row, letter, case)", "essential": "(self, row)", "only": "(self, signs)",
        "within": "(self, house)", "least": "(self)", "start": "(self)", "__len__": "(self)",
        "__contains__": "(self, sign)", "__eq__": "(self, other)", "__ne__": "(self, other)"}},
    "lots": {"Lot": {
        "__init__": "(self, play, *, most=300)", "names": "(self)", "walk": "(self)", "after": "(self, row)",
        "least": "(self, row)", "name_of": "(self, table)", "steps": "(self)", "search": "(self, wish)",
        "telling": "(self, row)", "last_names": "(self)", "behind": "(self, row, other)", "longest": "(self)",
        "classes": "(self)", "__len__": "(self)", "__contains__": "(self, table)"}},
    "machines": {"Machine": {
        "__init__": "(self, signs, steps, words, *, first=0)", "steps": "(self)", "words": "(self)",
        "after": "(self, row)", "parting": "(self, other)", "pairing": "(self, other)", "least": "(self)",
        "rows_with": "(self, words)", "__call__": "(self, row)", "__len__": "(self)", "__eq__": "(self, other)",
        "__ne__": "(self, other)"}},
    "notes": {"Find": {
        "__init__": "(self, lot, **notes)", "cases": "(self)", "first_fit": "(self)", "ends": "(self)",
        "against": "(self, saying)", "fitting_rows": "(self, case, length)", "stands": "(self)"}},
    "streets": {"Street": {
        "__init__": "(self)", "add_site": "(self, name, play, *, row='')", "tell": "(self, name, sign)",
        "note": "(self, name, letter, words)", "forget": "(self, name)",
        "link": "(self, first, saying, second, other)", "unlink": "(self, number)", "names": "(self)", "links": "(self)",
        "told": "(self, name)", "table_at": "(self, name)", "open_cases": "(self, name)", "__len__": "(self)",
        "__contains__": "(self, name)"}},
    "bench": {"Bench": {
        "__init__": "(self, play, *, never='false', cases=None, limit=40)", "do": "(self, sign)", "do_all": "(self, row)",
        "cut": "(self, count)", "undo": "(self)", "redo": "(self)", "change_limit": "(self, limit)", "fork": "(self)",
        "advice": "(self, wish)", "row": "(self)", "table": "(self)", "past": "(self)", "future": "(self)",
        "limit": "(self)", "__len__": "(self)"}},
}

PROPERTIES = {("sayings", "Saying"): "plain depth positive", ("tables", "Table"): "key room", ("plays", "Play"): "start",
              ("bench", "Bench"): "row table past future limit"}
GENERATORS = [("splits", "splits_of"), ("lots", "Lot.walk"), ("machines", "Machine.rows_with"),
              ("notes", "Find.fitting_rows"), ("plain", "rows_of"), ("plain", "all_houses")]


def written(method):
    if isinstance(method, property):
        return str(inspect.signature(method.fget))
    return str(inspect.signature(getattr(method, "__func__", method)))


class TheInterface(unittest.TestCase):
    def test_functions(self):
        for module, functions in FUNCTIONS.items():
            found = importlib.import_module(f"thinwall.{module}")
            for name, arguments in functions.items():
                function = getattr(found, name)
                self.assertEqual(function.__module__, f"thinwall.{module}", name)
                self.assertEqual(written(function), arguments, name)

    def test_classes(self):
        for module, classes in CLASSES.items():
            found = importlib.import_module(f"thinwall.{module}")
            for name, methods in classes.items():
                self.assertEqual(getattr(found, name).__module__, f"thinwall.{module}", name)
                for method, arguments in methods.items():
                    self.assertEqual(written(vars(getattr(found, name))[method]), arguments, (name, method))

    def test_constants(self):
        for module, constants in CONSTANTS.items():
            for name, value in constants.items():
                self.assertEqual(getattr(importlib.import_module(f"thinwall.{module}"), name), value)

    def test_properties(self):
        for (module, name), names in PROPERTIES.items():
            found = vars(getattr(importlib.import_module(f"thinwall.{module}"), name))
            self.assertEqual([one for one, value in found.items() if isinstance(value, property)], names.split())
            for one in names.split():
                self.assertEqual(found[one].fset is not None, one == "limit", one)

    def test_generators(self):
        for module, name in GENERATORS:
            found = importlib.import_module(f"thinwall.{module}")
            for part in name.split("."):
                found = getattr(found, part)
            self.assertTrue(inspect.isgeneratorfunction(found), name)


if __name__ == "__main__":
    unittest.main()
