"""Chains of cases that somebody cannot tell apart, and islands without one."""

from thinwall.checks import check_case
from thinwall.errors import SizeMismatch
from thinwall.splits import shared


def find_chain(splits, first, last):
    """The shortest chain from the one case to the other one, or None."""
    _check_ends(splits, first, last)
    ways = _ways_to(splits, last)
    if first not in ways:
        return None
    chain = []
    case = first
    while case != last:
        step = _step_nearer(splits, ways, case)
        chain.append(step)
        case = step[1]
    return chain


def chain_holds(splits, first, last, chain):
    """Whether the steps are a chain from the one case to the other one."""
    _check_ends(splits, first, last)
    case = first
    for index, other in chain:
        if not _step_holds(splits, case, index, other):
            return False
        case = other
    return case == last


def find_island(splits, first, last):
    """The smallest island of the first case without the last one, or None."""
    _check_ends(splits, first, last)
    size = splits[0].size
    island = shared(*splits, size=size).cell(first)
    if last in island:
        return None
    return island


def island_holds(splits, first, last, island):
    """Whether the cases are an island of the first case without the last one."""
    _check_ends(splits, first, last)
    cases = sorted(set(island))
    if any([case < 0 or case >= splits[0].size for case in cases]):
        return False
    closed = all([other in cases for split in splits for case in cases for other in split.cell(case)])
    return closed and first in cases and last not in cases


def _check_ends(splits, first, last):
    size = splits[0].size
    for split in splits:
        if split.size != size:
            raise SizeMismatch(size, split.size)
    check_case(first, size)
    check_case(last, size)


def _ways_to(splits, last):
    """For each case that a chain joins with the last one, the least number of steps."""
    ways = {last: 0}
    edge = [last]
    while edge:
        beyond = []
        for case in edge:
            for other in _neighbours(splits, case):
                if other not in ways:
                    ways[other] = ways[case] + 1
                    beyond.append(other)
        edge = beyond
    return ways


def _neighbours(splits, case):
    return [other for split in splits for other in split.cell(case)]


def _step_nearer(splits, ways, case):
    """The first step, in the order of lists, that leads nearer to the last case."""
    steps = [(index, other) for index, split in enumerate(splits) for other in split.cell(case)]
    return [step for step in steps if ways[step[1]] < ways[case]][0]


def _step_holds(splits, case, index, other):
    if index < 0 or index >= len(splits) or other < 0 or other >= splits[0].size:
        return False
    return splits[index].together(case, other)
