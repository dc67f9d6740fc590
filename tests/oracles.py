"""What the tests compare the program with: houses by chance, and the document word by word."""

import re

from thinwall.houses import House
from thinwall.sayings import And, Fact, Knows, Not, Or, Truth, Whether
from thinwall.tables import Table
from support import random_split


def random_house(source, size, facts="pqr", letters="abc"):
    rows = ["".join(source.choice("01") for _ in facts) for _ in range(size)]
    return House(list(facts), rows, **{letter: random_split(source, size).marks() for letter in letters})


def random_table(source, size, facts="pqr", letters="abc"):
    house = random_house(source, size, facts, letters)
    return Table(house, **{letter: random_split(source, size) for letter in letters})


def true_in(table, case, saying):
    """Whether the saying is true in the case, read off point 22 word by word."""
    def in_all(cell):
        return all(true_in(table, other, saying.inner) for other in cell)

    def in_none(cell):
        return not any(true_in(table, other, saying.inner) for other in cell)

    if isinstance(saying, Truth):
        return saying.value
    if isinstance(saying, Fact):
        return table.house.rows()[case][table.house.facts().index(saying.name)] == "1"
    if isinstance(saying, Not):
        return not true_in(table, case, saying.inner)
    if isinstance(saying, And):
        return true_in(table, case, saying.first) and true_in(table, case, saying.second)
    if isinstance(saying, Or):
        return true_in(table, case, saying.first) or true_in(table, case, saying.second)
    cells = [table.view(letter).cell(case) for letter in saying.group]
    if isinstance(saying, Knows):
        return all(in_all(cell) for cell in cells)
    if isinstance(saying, Whether):
        return all(in_all(cell) or in_none(cell) for cell in cells)
    return in_all(reached(table, saying.group, case))


def reached(table, group, case):
    """The cases that chains of the people of the group lead to."""
    found = [case]
    for one in found:
        for letter in group:
            found += [other for other in table.view(letter).cell(one) if other not in found]
    return sorted(found)


def is_saying_text(text):
    """Whether the text is one of a saying, told by writing it shorter again and again."""
    names = re.findall("[a-z]+", re.sub(r"\[.*?\]", " ", text))
    brackets = re.findall(r"\[.*?\]", text)
    if any(len(name) > 8 for name in names):
        return False
    if any(not re.fullmatch(r"\[a?b?c?d?e?f?g?h?[?*]?\]", one) or not re.match(r"\[[a-h]", one) for one in brackets):
        return False
    short = re.sub("[a-z]+", "x", re.sub(r"\[.*?\]", "~", text)).replace(" ", "")
    before = None
    while before != short:
        before = short
        for long in ("~x", "(x)", "x&x", "x|x"):
            short = short.replace(long, "x")
    return short == "x"


def first_wrong_place(text):
    """The place that point 16 asks for, or None: each beginning is completed in all the ways that may help."""
    if is_saying_text(text):
        return None
    for length in range(1, len(text) + 1):
        start = text[:length]
        closing = ")" * start.count("(")
        if not any(is_saying_text(start + middle + closing[:many])
                   for middle in ("", "p", "]p", "a]p") for many in range(len(closing) + 1)):
            return length - 1
    return len(text)
