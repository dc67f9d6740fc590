"""Least forms: houses without cases that are alike."""

from thinwall.alike import alike, alike_holds, alike_pairs, tables_alike
from thinwall.houses import House
from thinwall.tables import Table


def least(table):
    """The house with one case for all that are alike, and the map of the cases onto it."""
    cells = alike(table).cells()
    onto = _onto(cells)
    facts = table.house.facts()
    rows = table.house.rows()
    kept = [rows[cell[0]] for cell in cells]
    eyes = {letter: _marks_of_cells(cells, onto, table.view(letter)) for letter in table.house.people}
    return House(facts, kept, **eyes), onto


def least_holds(table, house, onto):
    """Whether the house is a least form of the table, and the list the map onto it."""
    if house.facts() != table.house.facts() or house.people != table.house.people:
        return False
    if len(onto) != table.house.size or sorted(set(onto)) != list(range(house.size)):
        return False
    form = Table(house)
    return alike_holds(table, form, list(enumerate(onto))) and len(alike(form)) == house.size


def same_form(first, second):
    """For each case of the one least form the case of the other one that is alike, or None."""
    if not tables_alike(first, second):
        return None
    ours = _onto(alike(first).cells())
    theirs = _onto(alike(second).cells())
    found = {ours[a]: theirs[b] for a, b in alike_pairs(first, second)}
    return [found[case] for case in range(len(found))]


def _onto(cells):
    """For each case the index of its cell."""
    places = {case: place for place, cell in enumerate(cells) for case in cell}
    return [places[case] for case in range(len(places))]


def _marks_of_cells(cells, onto, view):
    """The marks of the cases of the least form in the eyes of a person with this view."""
    # Alike cases meet the same cells, so one case of each cell is enough.
    return [min([onto[other] for other in view.cell(cell[0])]) for cell in cells]
