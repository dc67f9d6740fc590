"""Cases that are alike: no saying tells them apart."""

from thinwall.checks import check_like_houses
from thinwall.splits import Split, first_places


def alike(table):
    """The split of the cases whose cells are the alike cases."""
    return rounds(table)[-1]


def rounds(table):
    """The splits from equal rows of facts on to the alike cases."""
    return [Split(marks) for marks in joint_rounds([table])]


def alike_pairs(first, second):
    """The pairs of a case of the first and a case of the second table that are alike."""
    ours, theirs = _last_marks(first, second)
    return [(a, b) for a, mark in enumerate(ours) for b, other in enumerate(theirs) if mark == other]


def alike_holds(first, second, pairs):
    """Whether the pairs show of themselves that they are alike."""
    check_like_houses(first.house, second.house)
    listed = {pair: True for pair in pairs}
    return all([_pair_holds(first, second, listed, a, b) for a, b in pairs])


def tables_alike(first, second):
    """Whether each case of either table is alike to some case of the other one."""
    ours, theirs = _last_marks(first, second)
    return sorted(set(ours)) == sorted(set(theirs))


def joint_rounds(tables):
    """The rounds over the cases of all the tables, those of one table behind those of the one before.

    Each round is a list of marks. The houses have the same facts and the same people.
    """
    rows = []
    cells = []
    for table in tables:
        cells.extend(_cells_from(table, len(rows)))
        rows.extend(table.house.rows())
    found = []
    marks = first_places(rows)
    while not found or found[-1] != marks:
        found.append(marks)
        marks = first_places([_what_it_meets(marks, case, met) for case, met in enumerate(cells)])
    return found


def _cells_from(table, start):
    """For each case the person's cells in which it lies, with the cases numbered from start on."""
    views = [table.view(letter) for letter in table.house.people]
    cases = range(table.house.size)
    return [[[start + other for other in view.cell(case)] for view in views] for case in cases]


def _what_it_meets(marks, case, cells):
    """The mark of the case, and for each person the marks of the cases in the cell."""
    return (marks[case], tuple([tuple(sorted({marks[other] for other in cell})) for cell in cells]))


def _last_marks(first, second):
    """The marks behind the last round of two tables, for the cases of each of them."""
    check_like_houses(first.house, second.house)
    marks = joint_rounds([first, second])[-1]
    return marks[:first.house.size], marks[first.house.size:]


def _pair_holds(first, second, listed, a, b):
    if a < 0 or a >= first.house.size or b < 0 or b >= second.house.size:
        return False
    if first.house.rows()[a] != second.house.rows()[b]:
        return False
    return all([_cells_match(first.view(letter).cell(a), second.view(letter).cell(b), listed)
                for letter in first.house.people])


def _cells_match(ours, theirs, listed):
    """Whether each case of either cell stands in a listed pair with a case of the other one."""
    onward = all([any([(a, b) in listed for b in theirs]) for a in ours])
    return onward and all([any([(a, b) in listed for a in ours]) for b in theirs])
