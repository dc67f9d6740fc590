"""What is true in the cases of a table."""

from thinwall.checks import check_case, check_group, check_people, check_told
from thinwall.reading import to_saying
from thinwall.sayings import Common, Whether, folded, is_knowing, plain_truths


def cases_of(table, saying):
    """The cases in which the saying is true."""
    told = to_saying(saying)
    check_told(table.house, told)
    return [case for case, truth in enumerate(_truths(table, told)) if truth]


def holds(table, case, *sayings):
    """Whether all the sayings are true in the case."""
    told = [to_saying(saying) for saying in sayings]
    check_case(case, table.house.size)
    for saying in told:
        check_told(table.house, saying)
    return all([_truths(table, saying)[case] for saying in told])


def doubt(table, case, group, saying):
    """Who of the group does not know the saying, and a case for which they may take it."""
    told = to_saying(saying)
    _check_question(table, case, group, told)
    truths = _truths(table, told)
    for letter in group:
        for other in table.view(letter).cell(case):
            if not truths[other]:
                return (letter, other)
    return None


def level(table, case, group, saying):
    """How far the knowledge of the group goes; None if it goes on without end."""
    told = to_saying(saying)
    _check_question(table, case, group, told)
    splits = [table.view(letter) for letter in group]
    truths = _truths(table, told)
    count = 0
    while truths[case]:
        known = _known(splits, truths)
        # What is known is true, so the cases become fewer until they stay the same.
        if known == truths:
            return None
        truths = known
        count += 1
    return count


def sure_facts(table, group, case):
    """The facts that are sure for those of the group if they pool what they know."""
    # These two calls raise the errors of the group and of the case.
    cell = table.pooled(group).cell(case)
    sure = []
    for name in table.house.facts():
        values = [table.house.fact_holds(other, name) for other in cell]
        if len(set(values)) == 1:
            sure.append((name, values[0]))
    return sure


def true_among(table, saying, cases):
    """Those of the cases in which the saying is true."""
    truths = _truths(table, saying)
    return [case for case in cases if truths[case]]


def part_truths(table, saying):
    """For each part of the saying the list of its truths in the cases."""
    facts = table.house.facts()
    rows = table.house.rows()
    return folded(saying, lambda part, below: _truths_over(table, part, below, facts, rows))


def part_splits(table, part):
    """The splits whose cells a Knows, Whether, or Common speaks of."""
    if isinstance(part, Common):
        return [table.shared(part.group)]
    return [table.view(letter) for letter in part.group]


def _truths(table, saying):
    return part_truths(table, saying)[0]


def _truths_over(table, part, below, facts, rows):
    """The truths of a part, found from those of the direct parts."""
    if not is_knowing(part):
        return plain_truths(part, below, facts, rows)
    splits = part_splits(table, part)
    if isinstance(part, Whether):
        return _settled(splits, below[0])
    return _known(splits, below[0])


def _known(splits, truths):
    """For each case whether it is true in all of the cells in which the case lies."""
    return [all([truths[other] for other in _mates(splits, case)]) for case in range(len(truths))]


def _settled(splits, truths):
    """For each case whether each of the cells in which it lies has one truth only."""
    return [all([truths[other] == truth for other in _mates(splits, case)]) for case, truth in enumerate(truths)]


def _mates(splits, case):
    """The cases that one of the splits has together with the case."""
    return [other for split in splits for other in split.cell(case)]


def _check_question(table, case, group, saying):
    check_group(group)
    check_people(group, table.house.people)
    check_told(table.house, saying)
    check_case(case, table.house.size)
