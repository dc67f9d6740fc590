"""Ledgers: papers that show why a saying is true or false in a case."""

from thinwall.checks import check_case, check_told
from thinwall.reading import to_saying
from thinwall.sayings import And, Fact, Not, Or, Truth, Whether
from thinwall.truths import part_splits, part_truths


def find_ledger(table, case, saying):
    """The ledger of what is the case."""
    told = to_saying(saying)
    check_told(table.house, told)
    check_case(case, table.house.size)
    parts = told.parts()
    truths = part_truths(table, told)
    found = {}
    waiting = [(case, 0)]
    while waiting:
        place = waiting.pop()
        if place not in found:
            found[place] = True
            waiting.extend(_backing(table, parts, truths, place))
    return sorted([(other, at, truths[at][other]) for other, at in found])


def ledger_holds(table, case, saying, truth, ledger):
    """Whether the lines show that the saying has this truth in the case."""
    told = to_saying(saying)
    check_told(table.house, told)
    check_case(case, table.house.size)
    parts = told.parts()
    lines = {line: True for line in ledger}
    if (case, 0, truth) not in lines:
        return False
    return all([_line_holds(table, parts, lines, line) for line in lines])


def _backing(table, parts, truths, place):
    """The places (case, part) of the lines that back the line of a place."""
    case, at = place
    part = parts[at]
    if isinstance(part, (Truth, Fact)):
        return []
    if isinstance(part, Not):
        return [(case, at + 1)]
    if isinstance(part, (And, Or)):
        return _backing_two(part, truths, case, at)
    cells = [split.cell(case) for split in part_splits(table, part)]
    if truths[at][case]:
        return [(other, at + 1) for cell in cells for other in cell]
    if isinstance(part, Whether):
        return _unsettled(truths[at + 1], cells, at + 1)
    return [(other, at + 1) for cell in cells for other in cell if not truths[at + 1][other]][:1]


def _backing_two(part, truths, case, at):
    """The places that back an And or an Or."""
    both = [(case, at + 1), (case, at + 1 + len(part.first))]
    truth = truths[at][case]
    if truth == isinstance(part, And):
        return both
    return [(other, below) for other, below in both if truths[below][other] == truth][:1]


def _unsettled(truths, cells, at):
    """The places of a true and a false case, in the first cell that has both."""
    for cell in cells:
        yes = [other for other in cell if truths[other]]
        no = [other for other in cell if not truths[other]]
        if yes and no:
            return [(yes[0], at), (no[0], at)]
    return []


def _line_holds(table, parts, lines, line):
    """Whether there is such a line, and the lines back it."""
    case, at, truth = line
    if case < 0 or case >= table.house.size or at < 0 or at >= len(parts):
        return False
    part = parts[at]
    if isinstance(part, Truth):
        return part.value == truth
    if isinstance(part, Fact):
        return table.house.fact_holds(case, part.name) == truth
    if isinstance(part, Not):
        return (case, at + 1, not truth) in lines
    if isinstance(part, (And, Or)):
        backed = [(case, below, truth) in lines for below in (at + 1, at + 1 + len(part.first))]
        return all(backed) if truth == isinstance(part, And) else any(backed)
    cells = [split.cell(case) for split in part_splits(table, part)]
    if isinstance(part, Whether):
        return _whether_holds(lines, cells, at + 1, truth)
    backed = [(other, at + 1, truth) in lines for cell in cells for other in cell]
    return all(backed) if truth else any(backed)


def _whether_holds(lines, cells, inner, truth):
    """Whether the lines of the inner part back the line of a Whether."""
    backed = [_cell_backed(lines, cell, inner, truth) for cell in cells]
    return all(backed) if truth else any(backed)


def _cell_backed(lines, cell, inner, truth):
    """Whether the lines show that the inner part has one truth in the cell, or both."""
    yes = [(other, inner, True) in lines for other in cell]
    no = [(other, inner, False) in lines for other in cell]
    if truth:
        return all(yes) or all(no)
    return any(yes) and any(no)
