"""Ears: what the people of a group hear, whatever they conclude from it."""

from thinwall.checks import check_case, check_group, check_people
from thinwall.deeds import SILENCE
from thinwall.errors import UnlikeMachines
from thinwall.lots import tables_of, ways_of
from thinwall.machines import Machine, reached
from thinwall.splits import Split, pooled
from thinwall.tables import Table


def ear_machine(lot, group, case):
    """The machine of what the group hears in the case."""
    _check_group_in(lot, group)
    check_case(case, lot.play.house.size)
    return _machine(lot, group, case)


def never_apart(lot, group):
    """The split of the cases in which the group hears the same words of every row."""
    _check_group_in(lot, group)
    split = Split.whole(lot.play.house.size)
    for telling in _heard_words(lot, group):
        for words in telling:
            split = split.parted(words)
    return split


def find_apart(first_lot, a, second_lot, b, group):
    """The least row of which the group hears different words in the two cases, or None."""
    _check_same_signs(first_lot, second_lot)
    _check_group_in(first_lot, group)
    check_case(a, first_lot.play.house.size)
    _check_group_in(second_lot, group)
    check_case(b, second_lot.play.house.size)
    return _machine(first_lot, group, a).parting(_machine(second_lot, group, b))


def ears_alike(first_lot, second_lot, group):
    """The pairs of cases in which the group hears the same words of every row."""
    _check_same_signs(first_lot, second_lot)
    _check_group_in(first_lot, group)
    _check_group_in(second_lot, group)
    ours = _told_in_cases(first_lot, group)
    theirs = _told_in_cases(second_lot, group)
    met = _tables_met(first_lot, second_lot)
    return [(a, b) for a in range(first_lot.play.house.size) for b in range(second_lot.play.house.size)
            if all([ours[one][a] == theirs[other][b] for one, other in met])]


def first_word(lot, group, case):
    """The least row of whose last deed somebody in the group hears something, or None."""
    machine = ear_machine(lot, group, case)
    nothing = "+".join([SILENCE for _ in group])
    for name, told in zip(lot.names(), machine.words()):
        for sign, word in zip(machine.signs, told):
            if word != nothing:
                return name + sign
    return None


def finest(lot):
    """The table in which each person pools all that they see in the tables of the lot."""
    house = lot.play.house
    tables = tables_of(lot)
    splits = {letter: _pooled_views(tables, letter, house.size) for letter in house.people}
    return Table(house, **splits)


def _check_group_in(lot, group):
    check_group(group)
    check_people(group, lot.play.house.people)


def _check_same_signs(first_lot, second_lot):
    if first_lot.play.signs != second_lot.play.signs:
        raise UnlikeMachines()


def _machine(lot, group, case):
    """The machine of what the group hears in the case, with one state for each table."""
    steps = [list(way.values()) for way in ways_of(lot)]
    words = [[told[case] for told in telling] for telling in _heard_words(lot, group)]
    return Machine(lot.play.signs, steps, words)


def _heard_words(lot, group):
    """For each table and each sign the words that the group hears in the cases."""
    return [[_words_of(lot.play.deed(sign), table, group) for sign in lot.play.signs] for table in tables_of(lot)]


def _words_of(deed, table, group):
    """For each case the words that the people of the group hear of the deed, joined."""
    heard = [deed.heard(table, letter) for letter in group]
    return ["+".join([words[case] for words in heard]) for case in range(table.house.size)]


def _told_in_cases(lot, group):
    """For each table and each case the list of what the group hears of the deeds."""
    cases = list(range(lot.play.house.size))
    return [[[told[case] for told in telling] for case in cases] for telling in _heard_words(lot, group)]


def _tables_met(first_lot, second_lot):
    """The pairs of numbers of tables that the same rows lead to."""
    ours = [list(way.values()) for way in ways_of(first_lot)]
    theirs = [list(way.values()) for way in ways_of(second_lot)]
    pairs, _ = reached((0, 0), lambda pair: list(zip(ours[pair[0]], theirs[pair[1]])))
    return pairs


def _pooled_views(tables, letter, size):
    views = [table.view(letter) for table in tables]
    return pooled(*views, size=size)
